"""What is a name, an expression, a pattern, a type, a program: [2], [5], [6], [11], [12]."""

import unittest

from checking import ODD, look_at_errors, keeps, bad_for
from making import Maker

from changedsame.errors import InvalidProgram
from changedsame.trees import depth_of, is_big, is_expr, is_name, is_pattern, is_program, is_type, parts_of

KEYWORDS = ("and array ask at bool do else end exception exn false fn if in int let match mod module not of place "
            "raise rec ref same show size tell then true try type unit with").split()
UNIT = ("unit",)
ONE = ("int", 1)
X = ("var", "x")
CHECKS = (is_name, is_big, is_expr, is_pattern, is_type, is_program)


def module(*decls, name="M", shows=None):
    return ("module", name, shows, tuple(decls))


def chain(many):
    """An expression of this depth, and as many parts."""
    expr = UNIT
    for _ in range(many - 1):
        expr = ("raise", expr)
    return expr


def exactly(many):
    """An expression of just so many parts, not deep."""
    if many <= 2:
        return chain(many)
    half = (many - 1) // 2
    return ("seq", exactly(half), exactly(many - 1 - half))


class TestNames(unittest.TestCase):
    def test_names(self):
        for value in ("x", "x1", "aB9", "lists", "a" * 20, "list", "inner", "ends"):
            self.assertIs(is_name(value), True)
            self.assertIs(is_big(value), False)
        for value in ("X", "M", "Match", "B" + "a" * 19, "A1b"):
            self.assertIs(is_big(value), True)
            self.assertIs(is_name(value), False)
        for value in ["", "1x", "x_", "_x", "x.y", "M.x", "M.X", "x y", " x", "x\n", "a" * 21, "B" * 21, "x-", "~"]:
            self.assertIs(is_name(value), False)
            self.assertIs(is_big(value), False)

    def test_keywords_are_no_names(self):
        for word in KEYWORDS:
            self.assertIs(is_name(word), False)
            self.assertIs(is_name(word + "1"), True)
            self.assertIs(is_expr(("fn", word, UNIT)), False)
            self.assertIs(is_expr(("var", word)), False)
            self.assertIs(is_expr(("var", "M." + word)), False)

    def test_odd_values(self):
        good = {is_name: "x", is_big: "Big", is_type: ("int",)}
        for check in CHECKS:
            for value in ODD:
                self.assertIs(check(value), check in good and value == good[check], (check, value))


class TestExprs(unittest.TestCase):
    GOOD = [
        ONE, ("int", -2147483648), ("int", 2147483647), ("bool", True), ("bool", False), UNIT, X, ("var", "M.x"),
        ("con", "C", None), ("con", "M.C", X), ("fn", "x", X), ("call", X, X), ("let", "x", X, X),
        ("rec", (("f", "f", X),), X), ("rec", (("f", "x", X), ("g", "x", X), ("h", "x", X), ("k", "x", X)), X),
        ("if", X, X, X), ("match", X, ((("any",), X),)), ("match", X, ((("any",), X),) * 8), ("tuple", (X, X)),
        ("tuple", (X, X, X, X)), ("seq", X, X), ("raise", X), ("try", X, ((("bind", "x"), X),)),
        ("prim", "ask", ()), ("prim", "add", (X, X)), ("prim", "place", (X, X, X)), ("prim", "get", (X,)),
    ]
    BAD = [
        ("int", True), ("int", 2147483648), ("int", -2147483649), ("int", "1"), ("int",), ("int", 1, 1), ("bool", 1),
        ("bool", 0), ("bool", None), ("bool", "true"), ("bool",), ("unit", UNIT), ("unit", ()), [UNIT], ["unit"],
        ("var", "X"), ("var", "x.y"), ("var", "M.X"), ("var", "M.x.y"), ("var", ".x"), ("var", "M."), ("var",),
        ("var", "a" * 21), ("var", "M." + "a" * 21), ("con", "c", None), ("con", "M.c", None), ("con", "C"),
        ("con", "C", ()), ("con", "C", None, None), ("con", None, X), ("fn", "x"), ("fn", "X", X), ("fn", "M.x", X),
        ("fn", "x", X, X), ("call", X), ("call", X, X, X), ("call", X, None), ("let", "x", X), ("let", 1, X, X),
        ("let", "M.x", X, X), ("rec", (), X), ("rec", [("f", "x", X)], X), ("rec", (["f", "x", X],), X),
        ("rec", (("f", "x"),), X), ("rec", (("f", "x", X, X),), X), ("rec", (("F", "x", X),), X),
        ("rec", (("f", "X", X),), X), ("rec", (("f", "x", X),)), ("rec", (("f", "x", X), ("f", "y", X)), X),
        ("rec", tuple((name, "x", X) for name in "abcde"), X), ("if", X, X), ("if", X, X, X, X), ("match", X, ()),
        ("match", X, [(("any",), X)]), ("match", X, ([("any",), X],)), ("match", X, ((("any",), X),) * 9),
        ("match", X, ((X, X),)), ("match", X, ((("any",),),)), ("match", X, ((("any",), X, X),)), ("match", X),
        ("tuple", (X,)), ("tuple", ()), ("tuple", (X,) * 5), ("tuple", [X, X]), ("tuple", X, X), ("seq", X),
        ("seq", X, X, X), ("raise",), ("raise", X, X), ("try", X), ("prim", "ask", None), ("prim", "ask"),
        ("prim", "ask", (X,)), ("prim", "add", (X,)), ("prim", "add", (X, X, X)), ("prim", "place", (X, X)),
        ("prim", "add", [X, X]), ("prim", "plus", (X, X)), ("prim", None, ()), ("prim", "add", (X, None)),
        ("cell", 0), ("any",), ("bind", "x"), ("exn",), (), ("",), ("int ", 1), (X,), ("match", X, None),
        ("match", X, ((("tuple", (("bind", "a"), ("con", "C", ("bind", "a")))), X),)), ("unknown", 0),
    ]

    def test_good_and_bad(self):
        for expr in self.GOOD:
            self.assertIs(is_expr(expr), True, expr)
        for expr in self.BAD:
            self.assertIs(is_expr(expr), False, expr)

    def test_bad_ones_within_others(self):
        rows = [
            lambda e: ("con", "C", e), lambda e: ("fn", "x", e), lambda e: ("call", e, X), lambda e: ("call", X, e),
            lambda e: ("let", "x", e, X), lambda e: ("let", "x", X, e), lambda e: ("rec", (("f", "x", e),), X),
            lambda e: ("rec", (("f", "x", X), ("g", "x", e)), X), lambda e: ("rec", (("f", "x", X),), e),
            lambda e: ("if", e, X, X), lambda e: ("if", X, e, X), lambda e: ("if", X, X, e),
            lambda e: ("match", e, ((("any",), X),)), lambda e: ("match", X, ((("any",), X), (("any",), e))),
            lambda e: ("tuple", (X, e)), lambda e: ("seq", e, X), lambda e: ("seq", X, e), lambda e: ("raise", e),
            lambda e: ("try", e, ((("any",), X),)), lambda e: ("try", X, ((("any",), e),)),
            lambda e: ("prim", "add", (e, X)), lambda e: ("prim", "add", (X, e)),
        ]
        for row in rows:
            self.assertIs(is_expr(row(ONE)), True)
            for value in (("int", True), ["unit"], None if row(ONE)[0] != "con" else 0, "x", ("bool", 1), {}, b"", 1):
                self.assertIs(is_expr(row(value)), False, row(value))

    def test_random_ones(self):
        for seed in range(200):
            self.assertIs(is_expr(Maker(seed).expr(4)), True)

    def test_patterns(self):
        any_, bind = ("any",), ("bind", "x")
        for pattern in (any_, bind, ("int", -5), ("bool", False), UNIT, ("con", "C", None), ("con", "M.C", bind),
                        ("tuple", (bind, any_)), ("tuple", (any_,) * 4), ("tuple", (bind, ("bind", "y")))):
            self.assertIs(is_pattern(pattern), True, pattern)
        for pattern in (("any", None), ("bind", "X"), ("bind", "M.x"), ("bind",), ("int", True), ("bool", 1), X,
                        ("con", "c", None), ("con", "C"), ("con", "C", X), ("tuple", (any_,)), ("tuple", (any_,) * 5),
                        ("tuple", [any_, any_]), ["any"], ("fn", "x", any_), ("cell", 0), ("bind", "int"),
                        ("tuple", (bind, bind)), ("con", "C", ("tuple", (bind, ("con", "D", bind))))):
            self.assertIs(is_pattern(pattern), False, pattern)

    def test_types(self):
        a = ("param", "a")
        for written in (("int",), ("bool",), UNIT, ("exn",), ("fun", a, a), ("tuple", (a, a)), ("tuple", (a,) * 4),
                        ("ref", a), ("array", a), ("data", "t", ()), ("data", "M.t", (a, a, a)), a):
            self.assertIs(is_type(written), True, written)
        for written in (("int", 1), ("fun", a), ("fun", a, a, a), ("tuple", (a,)), ("tuple", (a,) * 5), ("ref",),
                        ("tuple", [a, a]), ("ref", a, a), ("array", None), ("data", "T", ()), ("data", "t"), a + a,
                        ("data", "t", [a]), ("data", "t", (a,) * 4), ("data", "M.T", ()), ("param", "M.a"), ["int"],
                        ("param", "A"), ("param", 0), ("param",), ("unknown", 0), ("any",), X, ("data", "t", a)):
            self.assertIs(is_type(written), False, written)


class TestPrograms(unittest.TestCase):
    def test_declarations(self):
        a = ("param", "a")
        good = [
            ("type", "t", (), (("A", None),)), ("type", "t", ("a", "b", "c"), (("A", a),) * 6), ("do", X),
            ("type", "t", (), (("A", None), ("A", None))), ("exception", "E", None), ("exception", "E", ("int",)),
            ("let", "x", X), ("rec", (("f", "x", X),)), ("rec", tuple((name, "x", X) for name in "abcd")),
        ]
        bad = [
            ("type", "t", (), ()), ("type", "T", (), (("A", None),)), ("type", "t", ["a"], (("A", None),)),
            ("type", "t", ("a", "a"), (("A", None),)), ("type", "t", tuple("abcd"), (("A", None),)), ("do",),
            ("type", "t", ("A",), (("A", None),)), ("type", "t", (["a"],), (("A", None),)), ("let", "x", X, X),
            ("type", "t", (), (("A", None),) * 7), ("type", "t", (), (("a", None),)), ("type", "t", (), (["A", None],)),
            ("type", "t", (), (("M.A", None),)), ("type", "t", (), (("A",),)), ("type", "t", (), (("A", X),)),
            ("type", "t", (), [("A", None)]), ("type", "t", (("A", None),)), ("exception", "e", None),
            ("exception", "E"), ("exception", "E", X), ("exception", "M.E", None), ("let", "X", X), ("let", "x"),
            ("let", "x", None), ("let", "M.x", X), ("rec", ()), ("rec", (("f", "x", X), ("f", "y", X))), None, X,
            ("rec", tuple((name, "x", X) for name in "abcde")), ("rec", (("f", "x", X),), X), ("do", X, X), [],
            ("do", None), ["do", X], ("module", "M", None, ()), 1, "do",
        ]
        for decl in good:
            self.assertIs(is_program((module(decl),)), True, decl)
        for decl in bad:
            self.assertIs(is_program((module(decl),)), False, decl)

    def test_modules(self):
        do = ("do", UNIT)
        names = tuple("n%d" % k for k in range(41))
        good = [module(), module(*[do] * 20), module(shows=()), module(shows=("x", "X", "type1")), module(name="Mod9"),
                module(shows=names[:40])]
        bad = [module(*[do] * 21), module(shows=("x", "x")), module(shows=["x"]), module(shows=names), ("module", "M"),
               module(shows=("M.x",)), module(shows=(1,)), module(shows=("int",)), module(shows="x"), module(name="m"),
               module(name="M.N"), module(name=None), module(name="M" * 21), ["module", "M", None, ()], None, "M",
               ("module", "M", None, [do]), ("module", "M", None, (), ()), ("Module", "M", None, ()), module(shows=(["x"],)),
               module(shows=False), module(shows=0)]
        for one in good:
            self.assertIs(is_program((one,)), True, one)
        for one in bad:
            self.assertIs(is_program((one,)), False, one)
            self.assertIs(is_program((module(), one)), False, one)
        self.assertIs(is_program((module(),) * 6), True)
        self.assertIs(is_program((module(),) * 7), False)
        self.assertIs(is_program(()), False)
        self.assertIs(is_program([module()]), False)
        self.assertIs(is_program(module()), False)

    def test_what_is_bound_is_not_asked(self):
        told = module(("let", "x", X), ("let", "x", ("var", "Q.x")), ("type", "t", (), (("A", ("data", "no", ())),)))
        self.assertIs(is_program((told, told)), True)

    def test_random_ones(self):
        for seed in range(60):
            program = Maker(seed).program(3)
            self.assertIs(is_program(program), self.counted(program)[0] <= 600)
            if is_program(program):
                self.assertEqual((parts_of(program), depth_of(program)), self.counted(program))

    def counted(self, program):
        """Parts and depth, counted another way: by all tuples that begin with a word."""
        words = {"int", "bool", "unit", "var", "con", "fn", "call", "let", "rec", "if", "match", "tuple", "seq", "raise",
                 "try", "prim", "any", "bind", "exn", "fun", "ref", "array", "data", "param"}

        def walk(tree, above):
            if not isinstance(tree, tuple):
                return (0, above)
            own = 1 if tree and isinstance(tree[0], str) and tree[0] in words and self.is_node(tree) else 0
            results = [walk(part, above + own) for part in tree]
            return (own + sum(r[0] for r in results), max([above + own] + [r[1] for r in results]))

        parts, deepest = 0, 0
        for one in program:
            parts += 1
            for decl in one[3]:
                parts += 1
                inside = decl[3] if decl[0] == "type" else decl[1:]
                found = walk(inside, 0)
                parts += found[0]
                deepest = max(deepest, found[1])
        return (parts, deepest)

    def is_node(self, tree):
        return is_expr(tree) or is_pattern(tree) or is_type(tree)


class TestLimits(unittest.TestCase):
    def test_parts(self):
        for many, fits in ((599, True), (600, True), (601, False), (700, False)):
            expr = exactly(many)
            self.assertIs(is_expr(expr), fits)
            self.assertIs(is_program((module(("do", expr)),)), many + 2 <= 600)
        self.assertIs(is_program((module(("do", exactly(598))),)), True)
        self.assertEqual(parts_of((module(("do", exactly(598))),)), 600)
        self.assertIs(is_program((module(("do", exactly(599))),)), False)
        self.assertIs(is_program((module(("do", exactly(597))), module(name="N"))), True)
        self.assertIs(is_program((module(("do", exactly(597)), ("exception", "E", ("int",))),)), False)
        self.assertIs(is_program((module(("do", exactly(596)), ("exception", "E", ("int",))),)), True)

    def test_parts_of_patterns_count(self):
        rule = (("tuple", (("any",), ("bind", "x"))), UNIT)
        self.assertEqual(parts_of((module(("do", ("match", UNIT, (rule,)))),)), 8)
        self.assertEqual(depth_of((module(("do", ("match", UNIT, (rule,)))),)), 3)
        many = ("tuple", (("any",),) * 4)
        for _ in range(3):
            many = ("tuple", (many,) * 4)
        self.assertIs(is_pattern(many), True)
        self.assertIs(is_expr(("match", UNIT, ((many, UNIT),) * 1)), True)
        self.assertIs(is_expr(("match", UNIT, ((many, UNIT),) * 2)), False)

    def test_many_alike_parts(self):
        expr, pattern, written = UNIT, ("any",), ("int",)
        for _ in range(45):
            expr, pattern, written = (("tuple", (part,) * 4) for part in (expr, pattern, written))
        self.assertIs(is_expr(expr), False)
        self.assertIs(is_pattern(pattern), False)
        self.assertIs(is_type(written), False)
        self.assertIs(is_program((module(("do", expr)),)), False)

    def test_depth(self):
        for many in (39, 40, 41, 55):
            fits = many <= 40
            self.assertIs(is_expr(chain(many)), fits)
            self.assertIs(is_program((module(("do", chain(many))),)), fits)
            pattern, written = ("any",), ("int",)
            for _ in range(many - 1):
                pattern, written = ("con", "C", pattern), ("ref", written)
            self.assertIs(is_pattern(pattern), fits)
            self.assertIs(is_type(written), fits)
            self.assertIs(is_program((module(("exception", "E", written)),)), fits)
            self.assertIs(is_expr(("match", UNIT, ((pattern, UNIT),))), many + 1 <= 40)
            rec = UNIT
            for _ in range(many - 1):
                rec = ("rec", (("f", "x", rec),), UNIT)
            self.assertIs(is_expr(rec), fits)
            if fits:
                self.assertEqual(depth_of((module(("do", UNIT), ("do", rec)),)), many)

    def test_no_depth(self):
        self.assertEqual(depth_of((module(),)), 0)
        self.assertEqual(parts_of((module(), module())), 2)
        self.assertEqual(depth_of((module(("exception", "E", None)),)), 0)
        self.assertEqual(parts_of((module(("exception", "E", None), ("type", "t", (), (("A", None),))),)), 3)
        self.assertEqual(depth_of((module(("exception", "E", ("int",))),)), 1)

    def test_errors(self):
        good = (module(("do", X)),)
        for call in (parts_of, depth_of):
            bad = bad_for(is_program) + [(module(("do", exactly(599))),), (module(("do", chain(41))),), [module()]]
            look_at_errors(self, call, [("program", good)], [("program", InvalidProgram, bad)])
            keeps(self, call, good)


if __name__ == "__main__":
    unittest.main()
