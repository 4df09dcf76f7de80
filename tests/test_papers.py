"""Still values put for names, and expressions that are related by a rule: [271], [272]."""

import unittest

from checking import ODD, bad_for, error_of, keeps, look_at_errors
from making import Maker

from changedsame.errors import InvalidExpr, InvalidName, InvalidRule, InvalidStill
from changedsame.lets import is_still
from changedsame.names import are_alpha, free_names
from changedsame.papers import are_related, put_for, rules
from changedsame.parser import parse_expr
from changedsame.printer import expr_text
from changedsame.spots import below
from changedsame.trees import is_expr, is_name

WORDS = ["alpha", "value", "call", "named", "nested", "unused", "rows", "choices", "given", "names", "moved", "flipped", "turned"]


class Apart:
    """Gives each bound name of an expression a name of its own."""

    def __init__(self):
        self.many = 0

    def fresh(self):
        self.many += 1
        return f"own{self.many}"

    def pattern(self, node, table):
        if node[0] == "bind":
            table[node[1]] = self.fresh()
            return ("bind", table[node[1]])
        if node[0] == "tuple":
            return ("tuple", tuple(self.pattern(part, table) for part in node[1]))
        if node[0] == "con" and node[2] is not None:
            return ("con", node[1], self.pattern(node[2], table))
        return node

    def expr(self, node, table):
        word = node[0]
        if word == "var":
            return ("var", table.get(node[1], node[1]))
        if word in ("fn", "let"):
            inner = {**table, node[1]: self.fresh()}
            first = (self.expr(node[2], table),) if word == "let" else ()
            return (word, inner[node[1]]) + first + (self.expr(node[-1], inner),)
        if word == "rec":
            inner = {**table, **{member[0]: self.fresh() for member in node[1]}}
            members = []
            for name, parameter, body in node[1]:
                own = {**inner, parameter: self.fresh()}
                members.append((inner[name], own[parameter], self.expr(body, own)))
            return ("rec", tuple(members), self.expr(node[2], inner))
        if word in ("match", "try"):
            rules = []
            for pattern, body in node[2]:
                bound = {}
                told = self.pattern(pattern, bound)
                rules.append((told, self.expr(body, {**table, **bound})))
            return (word, self.expr(node[1], table), tuple(rules))
        if word in ("tuple", "prim"):
            return node[:-1] + (tuple(self.expr(part, table) for part in node[-1]),)
        if word == "con":
            return node if node[2] is None else node[:2] + (self.expr(node[2], table),)
        return (word,) + tuple(self.expr(part, table) if isinstance(part, tuple) else part for part in node[1:])


def put_plainly(node, name, value):
    """The value in the place of each such name; for expressions whose bound names are none of those that matter."""
    if node == ("var", name):
        return value
    if isinstance(node, tuple) and node and node[0] not in ("any", "bind"):
        return tuple(put_plainly(part, name, value) if isinstance(part, tuple) else part for part in node)
    return node


def padded(many):
    """A still expression of so many parts."""
    if many <= 2:
        return ("unit",) if many == 1 else ("con", "Some", ("unit",))
    return ("tuple", (padded((many - 1) // 2), padded(many - 1 - (many - 1) // 2)))


class TestPut(unittest.TestCase):
    def look(self, text, name, value, wanted):
        told = keeps(self, put_for, parse_expr(text), name, parse_expr(value))
        self.assertEqual(expr_text(told), expr_text(parse_expr(wanted)))

    def test_names_that_would_be_caught(self):
        for row in [
                ("x + x", "x", "4", "4 + 4"), ("fn x -> x", "x", "4", "fn x -> x"), ("fn y -> x", "x", "y", "fn y0 -> y"), ("fn y -> y", "x", "y", "fn y -> y"),
                ("fn y -> (y, y0, x)", "x", "y", "fn y1 -> (y1, y0, y)"), ("fn y -> (y, x)", "x", "(y, y0)", "fn y1 -> (y1, (y, y0))"),
                ("fn y -> fn y0 -> (y, y0, x)", "x", "y", "fn y0 -> fn y00 -> (y0, y00, y)"), ("fn x0 -> (x, x0)", "x", "x0", "fn x00 -> (x0, x00)"),
                ("let y = x in (x, y)", "x", "y", "let y0 = y in (y, y0)"), ("let y = x in y", "x", "y", "let y = y in y"), ("let x = x in x", "x", "y", "let x = y in x"),
                ("let y = y in x", "x", "fn q -> y", "let y0 = y in fn q -> y"), ("match x with (x, y) -> (x, y) | y -> (x, y) end", "x", "y", "match y with (x, y) -> (x, y) | y0 -> (y, y0) end"),
                ("match 1 with (a, b, c) -> (a, b, c, x) end", "x", "(c, a)", "match 1 with (a0, b, c0) -> (a0, b, c0, (c, a)) end"),
                ("match 1 with (a, a0) -> (a, a0, x) end", "x", "a", "match 1 with (a1, a0) -> (a1, a0, a) end"),
                ("try x with Some y -> x | y -> y end", "x", "y", "try y with Some y0 -> y | y -> y end"),
                ("rec y p = y p in x", "x", "y", "rec y0 p = y0 p in y"), ("rec y x = (y, x) in y", "x", "y", "rec y x = (y, x) in y"),
                ("rec y p = x in 1", "x", "y", "rec y0 p = y in 1"), ("rec y x = x and z q = 1 in y", "x", "y", "rec y x = x and z q = 1 in y"), ("rec y x = x and z q = 1 in x", "x", "y", "rec y0 x = x and z q = 1 in y"), ("rec y x = x in x", "x", "y", "rec y0 x = x in y"),
                ("rec y p = (p, x) in y", "x", "p", "rec y p0 = (p0, p) in y"), ("rec x p = x in x", "x", "p", "rec x p = x in x"),
                ("rec f p = (p, x) and p q = f in p", "x", "p", "rec f p1 = (p1, p) and p0 q = f in p0"),
                ("rec f y = x and y0 q = 1 in 1", "x", "y", "rec f y1 = y and y0 q = 1 in 1"),
                ("rec f p = x in f", "x", "(f, p, f0)", "rec f1 p0 = (f, p, f0) in f1"), ("rec f f0 = (f, f0) in x", "x", "f", "rec f1 f0 = (f1, f0) in f"), ("rec f f0 = f in x", "x", "f", "rec f0 f00 = f0 in f"), ("rec f f0 = 1 in x", "x", "f", "rec f0 f0 = 1 in f"),
                ("rec f x = f and g p = x in 1", "x", "f", "rec f0 x = f0 and g p = f in 1"), ("rec f f = x in 1", "x", "f", "rec f0 f1 = f in 1"),
                ("(x; fn M1 -> 1)".replace("M1", "m"), "x", "fn z -> (m, z)", "((fn z -> (m, z)); fn m -> 1)"), ("M.x + x", "x", "1", "M.x + 1"),
                ("fn y -> x", "x", "M.y", "fn y -> M.y"), ("rec f x = x in x", "x", "Some x", "rec f x = x in Some x"), ("rec f x = f and f0 y = x in x", "x", "(x, f)", "rec f1 x = f1 and f0 y = (x, f) in (x, f)"), ("fn abcdefghijklmnopqrst -> x", "x", "abcdefghijklmnopqrst", "fn abcdefghijklmnop0 -> abcdefghijklmnopqrst"),
                ("fn a -> let b = a in (x, b)", "x", "(a, b)", "fn a0 -> let b0 = a0 in ((a, b), b0)")]:
            self.look(*row)

    def test_random(self):
        seen = 0
        for seed in range(800):
            make = Maker(seed, names=["x", "y", "z", "x0", "y0"], longs=["x", "y", "z", "x0", "M.x"])
            expr, value = make.expr(5), make.expr(3)
            if not is_expr(expr) or not is_still(value):
                continue
            seen += 1
            told = put_for(expr, "x", value)
            apart = put_plainly(Apart().expr(expr, {}), "x", value)
            self.assertTrue(are_alpha(told, apart), (seed, expr, value, told))
            if "x" not in free_names(expr):
                self.assertEqual(told, expr)
            self.assertIs(are_related("value", ("let", "x", value, expr), told), True)
        self.assertGreater(seen, 80)

    def test_errors(self):
        look_at_errors(self, put_for, [("expr", ("var", "x")), ("name", "x"), ("value", ("int", 1))], [
            ("expr", InvalidExpr, bad_for(is_expr)), ("name", InvalidName, bad_for(is_name) + ["M.x", "A"]),
            ("value", InvalidStill, bad_for(lambda value: is_expr(value)) + [("prim", "ask", ()), ("call", ("var", "f"), ("unit",)), ("let", "x", ("unit",), ("unit",)), ("con", "Some", ("prim", "ask", ()))])])


class TestRules(unittest.TestCase):
    def test_words(self):
        self.assertEqual(keeps(self, rules), WORDS)
        rules().append("more")
        self.assertEqual(rules(), WORDS)

    def look(self, rule, one, other, is_so=True):
        one, other = parse_expr(one), parse_expr(other)
        self.assertIs(keeps(self, are_related, rule, one, other), is_so, (rule, one, other))
        self.assertIs(keeps(self, are_related, rule, other, one), is_so, (rule, other, one))

    def test_alpha(self):
        self.look("alpha", "fn x -> x + y", "fn z -> z + y")
        self.look("alpha", "fn x -> x + y", "fn y -> y + y", False)
        self.look("alpha", "1", "1")

    def test_value(self):
        for one, other, is_so in [
                ("let x = 4 in x + y", "4 + y", True), ("let x = y in fn y -> x", "fn z -> y", True), ("let x = y in fn y -> x", "fn y -> y", False), ("let x = ask() in 1", "1", False),
                ("let x = (1, fn q -> q) in (x, x)", "((1, fn a -> a), (1, fn b -> b))", True), ("let x = 1 in 2", "2", True), ("let x = (1, ask()) in 2", "2", False), ("let x = 4 in x", "5", False),
                ("let x = x in x", "x", True), ("let x = 1 in let x = 2 in x", "let x = 2 in x", True), ("let x = 1 in let y = x in y", "let x = 1 in x", True), ("let x = 1 in let y = x in (x, y)", "let x = 1 in (1, 1)", False), ("4", "4", False)]:
            self.look("value", one, other, is_so)

    def test_value_of_what_would_be_too_large(self):
        big = ("unit",)
        for _ in range(3):
            big = ("tuple", (big,) * 4)
        uses = ("tuple", (("var", "x"),) * 4)
        for _ in range(2):
            uses = ("tuple", (uses,) * 4)
        self.assertIs(are_related("value", ("let", "x", big, uses), ("unit",)), False)
        few = ("tuple", (("var", "x"),) * 4)
        self.assertIs(are_related("value", ("let", "x", big, few), ("tuple", (big,) * 4)), True)

    def test_value_of_six_hundred_parts(self):
        for many, is_so in ((149, True), (150, False)):
            value, pad, x = padded(150), padded(many), ("var", "x")
            let = ("let", "x", value, ("tuple", (x, x, x, pad)))
            other = ("tuple", (value, value, value, pad))
            self.assertIs(is_expr(other), is_so)
            self.assertIs(are_related("value", let, other if is_so else pad), is_so)

    def test_call(self):
        for one, other, is_so in [
                ("(fn x -> x + 1) (f 2)", "let x = f 2 in x + 1", True), ("(fn x -> x) 2", "let y = 2 in y", False), ("f 2", "let x = 2 in f x", False), ("(fn x -> x) 2", "let x = 3 in x", False),
                ("(fn x -> x) 2", "let x = 2 in 2", False), ("(fn x -> x); f 2", "let x = f 2 in x", False), ("()", "let x = 2 in x", False)]:
            self.look("call", one, other, is_so)

    def test_named(self):
        for one, other, is_so in [
                ("1 + f 2", "let z = f 2 in 1 + z", True), ("f 2 + 1", "let z = f 2 in z + 1", True), ("f 1 + f 2", "let z = f 1 in z + f 2", True), ("f 1 + f 2", "let z = f 2 in f 1 + z", False),
                ("z + f 2", "let z = f 2 in z + z", False), ("y + f 2", "let z = f 2 in y + z", True), ("f 1 + f 1", "let z = f 1 in z + f 1", True), ("f 1 + f 1", "let z = f 1 in z + z", False),
                ("f 1 + f 1", "let z = f 1 in f 1 + z", False), ("(f 1) (g 2)", "let z = f 1 in z (g 2)", True), ("h (g 2)", "let z = g 2 in h z", True), ("h (g 2)", "let z = h in z (g 2)", True),
                ("(f 1) (g 2)", "let z = g 2 in (f 1) z", False), ("(1, fn q -> q, f 1)", "let z = f 1 in (1, fn q -> q, z)", True), ("(1, ask(), f 1)", "let z = f 1 in (1, ask(), z)", False),
                ("Some (f 1)", "let z = f 1 in Some z", True), ("Cons (f 1, g 1)", "let z = f 1 in Cons (z, g 1)", True), ("Cons (x, g 1)", "let z = g 1 in Cons (x, z)", True),
                ("Cons (f 1, g 1)", "let z = g 1 in Cons (f 1, z)", False), ("Cons (f 1, g 1)", "let z = (f 1, g 1) in Cons z", True), ("Some (Some (f 1, 2))", "let z = f 1 in Some (Some (z, 2))", False),
                ("((f 1, 2), 3)", "let z = f 1 in ((z, 2), 3)", False), ("raise (f 1)", "let z = f 1 in raise z", True), ("if f 1 then 2 else 3", "let z = f 1 in if z then 2 else 3", True),
                ("if true then f 1 else 3", "let z = f 1 in if true then z else 3", False), ("match f 1 with y -> y end", "let z = f 1 in match z with y -> y end", True),
                ("match 1 with y -> f 1 end", "let z = f 1 in match 1 with y -> z end", False), ("let y = f 1 in y", "let z = f 1 in let y = z in y", True), ("let y = 1 in f 1", "let z = f 1 in let y = 1 in z", False),
                ("try f 1 with y -> y end", "let z = f 1 in try z with y -> y end", False), ("fn y -> f 1", "let z = f 1 in fn y -> z", False), ("(f 1; 2)", "let z = f 1 in (z; 2)", True),
                ("(1; f 2)", "let z = f 2 in (1; z)", True), ("(ask(); f 2)", "let z = f 2 in (ask(); z)", False), ("tell(f 1)", "let z = f 1 in tell(z)", True), ("f 1", "let z = f 1 in z", False),
                ("place(a, 1, f 1)", "let z = f 1 in place(a, 1, z)", True), ("rec k y = y in f 1", "let z = f 1 in rec k y = y in z", False), ("1 + 2", "let z = 3 in 1 + z", False),
                ("Some z", "let z = z in Some z", False), ("Some y", "let z = y in Some z", True), ("f 1 + 2", "let z = f 1 in z + 3", False)]:
            self.look("named", one, other, is_so)

    def test_nested(self):
        for one, other, is_so in [
                ("let x = (let y = a in b y) in c x", "let y = a in let x = b y in c x", True), ("let x = (let y = a in b) in c y", "let y = a in let x = b in c y", False),
                ("let x = (let x = a in x) in c x", "let x = a in let x = x in c x", True), ("let x = (a; b) in c", "a; let x = b in c", True), ("(a; b); c", "a; (b; c)", True),
                ("(let y = a in b); c", "let y = a in (b; c)", True), ("(let y = a in b); y", "let y = a in (b; y)", False), ("let x = (a; b) in c", "a; let y = b in c", False),
                ("(a; b); c", "b; (a; c)", False), ("a; b", "a; b", False), ("let x = (let y = a in b) in c", "let y = a in let x = c in b", False), ("f (a; b)", "a; f b", False),
                ("(a; b; c); d", "a; (b; c); d", True), ("let x = fn q -> (a; b) in c", "a; let x = b in c", False), ("(a; b) c", "a; b c", False),
                ("if a then (b; c) else d", "b; if a then c else d", False), ("(let y = a in b) c", "let y = a in b c", False), ("let x = fn y -> b in c", "let y = b in let x = b in c", False)]:
            self.look("nested", one, other, is_so)

    def test_unused(self):
        for one, other, is_so in [
                ("a; b", "let x = a in b", True), ("a; x", "let x = a in x", False), ("f 1; b", "let x = f 1 in b", True), ("a; b", "let x = b in a", False), ("a; b", "a; b", False),
                ("a; fn x -> x", "let x = a in fn x -> x", True), ("a; b", "if c then a else b", False), ("let y = a in b", "let x = a in b", False)]:
            self.look("unused", one, other, is_so)

    def test_rules_keep_to_themselves(self):
        pairs = {"alpha": ("fn x -> x", "fn y -> y"), "value": ("let x = 1 in x + x", "1 + 1"), "call": ("(fn x -> x) (f 2)", "let x = f 2 in x"), "named": ("1 + f 2", "let z = f 2 in 1 + z"),
                 "nested": ("(a; b); c", "a; (b; c)"), "unused": ("f 1; b", "let x = f 1 in b")}
        for rule in pairs:
            for other in pairs:
                self.look(rule, *pairs[other], rule == other)

    def test_parts_of_random_ones(self):
        for seed in range(60):
            expr = Maker(seed).expr(5)
            if is_expr(expr):
                for _, part in below((), expr):
                    self.assertIs(are_related("alpha", part, part), True)
                    if part[0] == "let" and not is_still(part[2]):
                        self.assertIs(are_related("value", part, part[3]), False)

    def test_errors(self):
        look_at_errors(self, are_related, [("rule", "alpha"), ("expr", ("var", "x")), ("other", ("int", 1))], [
            ("rule", InvalidRule, ODD + WORDS[6:] + ["Alpha", "alpha "]), ("expr", InvalidExpr, bad_for(is_expr)), ("other", InvalidExpr, bad_for(is_expr))])
        self.assertIsNone(error_of(are_related, "value", ("unit",), ("unit",)))


if __name__ == "__main__":
    unittest.main()
