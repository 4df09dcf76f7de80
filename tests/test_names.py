"""Free names, renaming, alike but for local names: [21], [22], [23]."""

import unittest

from checking import bad_for, keeps, look_at_errors
from making import Maker

from changedsame.errors import InvalidExpr, InvalidName
from changedsame.names import are_alpha, free_names, renamed
from changedsame.parser import parse_expr
from changedsame.printer import expr_text
from changedsame.trees import is_expr, is_name

X = ("var", "x")


def bound_names(pattern):
    if pattern[0] == "bind":
        return [pattern[1]]
    if pattern[0] == "tuple":
        return [name for part in pattern[1] for name in bound_names(part)]
    return bound_names(pattern[2]) if pattern[0] == "con" and pattern[2] is not None else []


def blank(pattern):
    if pattern[0] == "bind":
        return "bind"
    if pattern[0] == "tuple":
        return tuple(blank(part) for part in pattern[1])
    return (pattern[1], blank(pattern[2])) if pattern[0] == "con" and pattern[2] is not None else pattern


def nameless(expr, around=(), changes=()):
    """The expression with each bound name as how many bindings stand between, free ones perhaps changed."""
    word = expr[0]
    if word == "var":
        for between, name in enumerate(reversed(around)):
            if name == expr[1]:
                return ("bound", between)
        return ("free", dict(changes).get(expr[1], expr[1]))
    if word in ("int", "bool", "unit"):
        return expr

    def inner(part, *names):
        return nameless(part, around + names, changes)

    if word == "con":
        return (word, expr[1], None if expr[2] is None else inner(expr[2]))
    if word == "fn":
        return (word, inner(expr[2], expr[1]))
    if word == "let":
        return (word, inner(expr[2]), inner(expr[3], expr[1]))
    if word == "rec":
        names = [member[0] for member in expr[1]]
        return (word, tuple(inner(body, *names, x) for _, x, body in expr[1]), inner(expr[2], *names))
    if word in ("match", "try"):
        return (word, inner(expr[1]), tuple((blank(p), inner(body, *bound_names(p))) for p, body in expr[2]))
    if word in ("tuple", "prim"):
        return (word, expr[1] if word == "prim" else None, tuple(inner(part) for part in expr[-1]))
    return (word,) + tuple(inner(part) for part in expr[1:])


def free_of(tree):
    if isinstance(tree, tuple):
        if len(tree) == 2 and tree[0] == "free":
            return {tree[1]}
        return set().union(*[free_of(part) for part in tree])
    return set()


class TestFree(unittest.TestCase):
    def test_each_form(self):
        rows = [
            ("1", []), ("x", ["x"]), ("M.x", ["M.x"]), ("C", []), ("C x", ["x"]), ("fn x -> x y", ["y"]), ("x y x", ["x", "y"]),
            ("let x = x in x", ["x"]), ("let x = y in x", ["y"]), ("let x = y in z", ["y", "z"]),
            ("rec f x = f x g y and g y = f x in f g h", ["h", "x", "y"]), ("rec f x = x in x", ["x"]),
            ("rec f f = f in 1", []), ("if x then y else z", ["x", "y", "z"]),
            ("match x with (x, C y) -> x y z | _ -> y end", ["x", "y", "z"]), ("try f with E x -> x g | x -> f end", ["f", "g"]),
            ("(x, y, x)", ["x", "y"]), ("x; y", ["x", "y"]), ("raise x", ["x"]), ("x := !y + ask()", ["x", "y"]),
            ("fn x -> M.x", ["M.x"]), ("let x = 1 in M.x x", ["M.x"]), ("z y x", ["x", "y", "z"]),
            ("match 1 with x -> x | y -> x end", ["x"]), ("a1 A a M.a", ["M.a", "a", "a1"]),
        ]
        for text, names in rows:
            self.assertEqual(free_names(parse_expr(text)), names, text)

    def test_random_ones(self):
        for seed in range(300):
            expr = Maker(seed).expr(5)
            if is_expr(expr):
                self.assertEqual(free_names(expr), sorted(free_of(nameless(expr))))

    def test_errors(self):
        bad = bad_for(is_expr)
        look_at_errors(self, free_names, [("expr", X)], [("expr", InvalidExpr, bad)])
        keeps(self, free_names, ("call", X, X))


class TestRenamed(unittest.TestCase):
    def changes(self, text, name, other, told):
        self.assertEqual(expr_text(renamed(parse_expr(text), name, other)), told, text)

    def test_free_ones_alone(self):
        self.changes("x y x", "x", "z", "z y z")
        self.changes("fn x -> x", "x", "z", "fn x -> x")
        self.changes("let x = x in x", "x", "z", "let x = z in x")
        self.changes("M.x x", "x", "z", "M.x z")
        self.changes("rec x y = x y in x", "x", "z", "rec x y = x y in x")
        self.changes("rec f x = x in x", "x", "z", "rec f x = x in z")
        self.changes("match x with x -> x | _ -> x end", "x", "z", "match z with x -> x | _ -> z end")
        self.changes("try x with C (x, y) -> x | y -> x end", "x", "z", "try z with C (x, y) -> x | y -> z end")
        self.changes("C x; (x, 1); raise x; !x; if x then x else x", "x", "z", "C z; (z, 1); raise z; !z; if z then z else z")

    def test_nothing_is_caught_nothing_changed(self):
        self.changes("fn y -> y", "x", "y", "fn y -> y")
        self.changes("x (fn y -> y)", "x", "y", "y (fn y -> y)")
        self.changes("let y = x in y", "x", "y", "let y = y in y")
        self.changes("rec y z = y in 1", "x", "y", "rec y z = y in 1")
        self.changes("(rec f x = x and y z = 1 in 2) x", "x", "y", "(rec f x = x and y z = 1 in 2) y")
        self.changes("rec f y = y in x", "x", "y", "rec f y = y in y")
        self.changes("match x with y -> y | _ -> x end", "x", "y", "match y with y -> y | _ -> y end")
        self.changes("match x with (x, y) -> x y end", "x", "y", "match y with (x, y) -> x y end")
        self.changes("fn y -> fn x -> x y", "x", "y", "fn y -> fn x -> x y")
        self.changes("fn x -> x y", "x", "x", "fn x -> x y")
        self.changes("y (fn x -> x)", "x", "x", "y (fn x -> x)")
        self.changes("fn y -> x", "x", "x", "fn y -> x")

    def test_what_would_be_caught(self):
        self.changes("fn y -> x y", "x", "y", "fn y0 -> y y0")
        self.changes("fn y -> x y y0", "x", "y", "fn y1 -> y y1 y0")
        self.changes("fn y -> x", "x", "y", "fn y0 -> y")
        self.changes("let y = y in x y", "x", "y", "let y0 = y in y y0")
        self.changes("let y = x y in x y", "x", "y", "let y0 = y y in y y0")
        self.changes("match x with y -> x y | (y, y0) -> x y y0 end", "x", "y", "match y with y0 -> y y0 | (y1, y0) -> y y1 y0 end")
        self.changes("try 1 with C (z, y) -> x | y -> y end", "x", "y", "try 1 with C (z, y0) -> y | y -> y end")

    def test_a_fresh_name_is_none_of_both(self):
        self.changes("fn y -> y0 y", "y0", "y", "fn y1 -> y y1")
        self.changes("fn y0 -> x", "x", "y0", "fn y00 -> y0")

    def test_fresh_names_are_cut(self):
        for other in ("a" * 20, "a" * 17, "a" * 16):
            self.changes("fn %s -> x %s" % (other, other), "x", other, "fn %s0 -> %s %s0" % ("a" * 16, other, "a" * 16))
        self.changes("fn %s -> x" % ("b" * 15), "x", "b" * 15, "fn %s0 -> %s" % ("b" * 15, "b" * 15))
        used = " ".join(["a" * 16 + str(k) for k in range(12)])
        self.changes("fn %s -> x %s" % ("a" * 18, used), "x", "a" * 18, "fn %s12 -> %s %s" % ("a" * 16, "a" * 18, used))

    def test_from_outside_in(self):
        self.changes("fn y -> fn y -> x y", "x", "y", "fn y0 -> fn y0 -> y y0")
        self.changes("fn y -> fn y0 -> x y y0", "x", "y", "fn y0 -> fn y00 -> y y0 y00")
        self.changes("fn y -> let y0 = y in x y y0", "x", "y", "fn y0 -> let y00 = y0 in y y0 y00")
        self.changes("fn y -> match y with y0 -> x y end", "x", "y", "fn y0 -> match y0 with y00 -> y y0 end")

    def test_recs(self):
        self.changes("rec y z = x z y in y x", "x", "y", "rec y0 z = y z y0 in y0 y")
        self.changes("rec f y = x y f in x", "x", "y", "rec f y0 = y y0 f in y")
        self.changes("rec y y = x y in y", "x", "y", "rec y0 y1 = y y1 in y0")
        self.changes("rec y0 y = x y in y0", "x", "y", "rec y0 y1 = y y1 in y0")
        self.changes("rec y y0 = y in x", "x", "y", "rec y0 y00 = y0 in y")
        self.changes("rec y y0 = y0 in x", "x", "y", "rec y1 y0 = y0 in y")
        self.changes("rec y z = z and y0 z = z in x", "x", "y", "rec y1 z = z and y0 z = z in y")
        self.changes("rec y z = 1 and f y = y x in 2", "x", "y", "rec y0 z = 1 and f y1 = y1 y in 2")
        self.changes("rec y x = x y in x", "x", "y", "rec y0 x = x y0 in y")

    def test_random_ones(self):
        for seed in range(250):
            expr = Maker(seed, longs=["x", "y", "x0", "y0", "M.x"]).expr(5)
            if is_expr(expr):
                for name, other in (("x", "y"), ("y", "x"), ("x", "y0"), ("x0", "x")):
                    told = renamed(expr, name, other)
                    self.assertEqual(nameless(told), nameless(expr, changes=((name, other),)))
                    self.assertTrue(is_expr(told))
                    if name not in free_names(expr):
                        self.assertEqual(told, expr)

    def test_errors(self):
        names = bad_for(is_name) + ["M.y", "Y", "in", "a" * 21]
        look_at_errors(self, renamed, [("expr", X), ("name", "x"), ("other", "y")], [
            ("expr", InvalidExpr, bad_for(is_expr)), ("name", InvalidName, names), ("other", InvalidName, names)])
        keeps(self, renamed, parse_expr("fn y -> x y"), "x", "y")


class TestAlpha(unittest.TestCase):
    def test_rows(self):
        alike = [
            ("fn x -> x", "fn y -> y"), ("fn x -> z", "fn y -> z"), ("let x = x in x", "let y = x in y"),
            ("rec f x = f x in f", "rec g y = g y in g"), ("rec f f = f in 1", "rec g x = x in 1"),
            ("match z with (x, C y) -> x y | x -> x end", "match z with (y, C x) -> y x | w -> w end"),
            ("fn x -> fn x -> x", "fn x -> fn y -> y"), ("try 1 with E x -> x end", "try 1 with E y -> y end"),
            ("rec f x = g x and g y = f y in f", "rec g x = f x and f y = g y in g"), ("x M.x", "x M.x"),
            ("fn x -> fn y -> x", "fn y -> fn x -> y"), ("if x then !y else (1, true)", "if x then !y else (1, true)"),
        ]
        unlike = [
            ("x", "y"), ("x", "M.x"), ("fn x -> x", "fn x -> y"), ("fn x -> y", "fn y -> y"), ("fn y -> y", "fn x -> y"),
            ("fn x -> fn y -> x", "fn x -> fn y -> y"), ("let x = x in x", "let y = y in y"), ("1", "2"), ("1", "~1"),
            ("true", "false"), ("C", "D"), ("C", "C x"), ("x + y", "x - y"), ("x + y", "y + x"), ("(x, y)", "(x, y, x)"),
            ("rec f x = f in f", "rec f x = x in f"), ("rec f x = 1 in 1", "rec f x = 1 and g x = 1 in 1"), ("x", "x; x"),
            ("rec f x = f and g x = f in 1", "rec g x = f and f x = g in 1"), ("match 1 with _ -> 2 end", "try 1 with _ -> 2 end"),
            ("match 1 with x -> 2 end", "match 1 with _ -> 2 end"), ("match 1 with (x, y) -> x end", "match 1 with (x, y) -> y end"),
            ("match 1 with 1 -> 2 end", "match 1 with 2 -> 2 end"), ("match 1 with C x -> 2 end", "match 1 with D x -> 2 end"),
            ("match 1 with C -> 2 end", "match 1 with C _ -> 2 end"), ("match 1 with _ -> 2 end", "match 1 with _ -> 2 | _ -> 2 end"),
            ("rec f f = f in 1", "rec f x = f in 1"), ("raise x", "!x"), ("()", "(1, 1)"), ("x", "1"), ("fn x -> x", "rec f x = x in f"),
            ("let x = 1 in x", "match 1 with x -> x end"), ("fn x -> M.x", "fn y -> M.y"),
        ]
        for one, other in alike:
            self.assertIs(are_alpha(parse_expr(one), parse_expr(other)), True, one)
            self.assertIs(are_alpha(parse_expr(other), parse_expr(one)), True, one)
        for one, other in unlike:
            self.assertIs(are_alpha(parse_expr(one), parse_expr(other)), False, one)
            self.assertIs(are_alpha(parse_expr(other), parse_expr(one)), False, one)

    def test_random_ones(self):
        found = []
        for seed in range(300):
            expr = Maker(seed, names=["x", "y", "z"], longs=["x", "y"]).expr(3)
            found.append(expr)
            for other in (found[seed // 2], renamed(expr, "x", "y")):
                self.assertIs(are_alpha(expr, other), nameless(expr) == nameless(other))

    def test_errors(self):
        bad = bad_for(is_expr)
        look_at_errors(self, are_alpha, [("expr", X), ("other", X)], [("expr", InvalidExpr, bad), ("other", InvalidExpr, bad)])
        keeps(self, are_alpha, X, ("fn", "x", X))


if __name__ == "__main__":
    unittest.main()
