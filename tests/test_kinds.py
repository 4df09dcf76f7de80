"""Loose types and schemes: [31]."""

import unittest

from checking import bad_for, keeps, look_at_errors

from changedsame.errors import InvalidLoose, InvalidScheme
from changedsame.kinds import general, is_instance, is_loose, is_scheme, scheme_text, unknowns_of

INT, BOOL = ("int",), ("bool",)


def u(k):
    return ("unknown", k)


def p(k):
    return ("param", k)


def fun(*types):
    return ("fun", types[0], types[1] if len(types) == 2 else fun(*types[1:]))


def deep(word, many, inside):
    for _ in range(many):
        inside = (word, inside)
    return inside


def wide(many, leaf):
    """A type with just so many parts, not deep; the leaves are made one by one."""
    if many == 1:
        return leaf()
    if many == 2:
        return ("ref", leaf())
    half = (many - 1) // 2
    return ("fun", wide(half, leaf), wide(many - 1 - half, leaf))


class TestLoose(unittest.TestCase):
    GOOD = [
        INT, BOOL, ("unit",), ("exn",), u(0), u(10 ** 25), fun(INT, u(1)), ("tuple", (u(0), u(0))), ("tuple", (INT,) * 4),
        ("ref", u(3)), ("array", INT), ("data", "list", (u(0),)), ("data", "M.t", ()), ("data", "t", (INT,) * 3),
    ]
    BAD = [
        ("param", "a"), ("param", 0), ("unknown", True), ("unknown", -1), ("unknown", "a"), ("unknown",), ("unknown", 0, 0),
        ("unknown", None), ("fun", INT), ("fun", INT, INT, INT), ("tuple", (INT,)), ("tuple", (INT,) * 5), ("tuple", [INT, INT]),
        ("ref",), ("ref", None), ("data", "T", ()), ("data", "list", [INT]), ("data", "list", (INT,) * 4), ("data", "M.T", ()),
        ("ref", ("param", "a")), ["int"], ("int", 1), ("list", INT), fun(INT, ("unknown", True)), (), ("ref", ["int"]),
    ]

    def test_which_are(self):
        for loose in self.GOOD:
            self.assertIs(is_loose(loose), True, loose)
            self.assertIs(is_loose(fun(INT, ("ref", loose))), True)
        for loose in self.BAD:
            self.assertIs(is_loose(loose), False, loose)
            self.assertIs(is_loose(fun(INT, ("ref", loose))), False)
        for value in bad_for(lambda value: value == INT):
            self.assertIs(is_loose(value), False, value)

    def test_parts(self):
        self.assertIs(is_loose(wide(200, lambda: INT)), True)
        self.assertIs(is_loose(wide(201, lambda: INT)), False)
        self.assertIs(is_loose(deep("ref", 199, u(0))), True)
        self.assertIs(is_loose(deep("ref", 200, u(0))), False)
        self.assertIs(is_scheme((1, deep("ref", 199, p(0)))), True)
        self.assertIs(is_scheme((1, deep("ref", 200, p(0)))), False)
        alike = INT
        for _ in range(40):
            alike = ("tuple", (alike,) * 4)
        self.assertIs(is_loose(alike), False)
        self.assertIs(is_scheme((0, alike)), False)

    def test_unknowns(self):
        self.assertEqual(unknowns_of(INT), [])
        self.assertEqual(unknowns_of(fun(u(7), ("tuple", (u(2), u(7), ("data", "t", (u(0), u(2), u(9))))), u(1))), [7, 2, 0, 9, 1])
        self.assertEqual(unknowns_of(deep("ref", 199, u(4))), [4])

    def test_general(self):
        self.assertEqual(general(INT), (0, INT))
        self.assertEqual(general(fun(u(7), ("data", "t", (u(0), u(7))))), (2, fun(p(0), ("data", "t", (p(1), p(0))))))
        self.assertEqual(general(deep("ref", 199, u(4))), (1, deep("ref", 199, p(0))))
        numbers = iter(range(1000, 0, -1))
        loose = wide(199, lambda: u(next(numbers)))
        many, written = general(loose)
        self.assertEqual(many, len(unknowns_of(loose)))
        self.assertIs(is_scheme((many, written)), True)

    def test_errors(self):
        bad = bad_for(is_loose) + self.BAD + [deep("ref", 200, INT)]
        for call in (unknowns_of, general):
            look_at_errors(self, call, [("loose", fun(u(0), u(1)))], [("loose", InvalidLoose, bad)])
            keeps(self, call, fun(u(0), u(1)))


class TestSchemes(unittest.TestCase):
    GOOD = [(0, INT), (1, p(0)), (1, fun(p(0), p(0))), (2, fun(p(0), p(1), p(0))), (3, ("tuple", (p(0), ("ref", p(1)), p(2))))]
    BAD = [
        (1, INT), (0, p(0)), (1, p(1)), (2, fun(p(1), p(0))), (True, p(0)), (False, INT), (2, fun(p(0), p(0))), (0, u(0)),
        (1, fun(p(0), u(0))), (1, ("param", True)), (1, ("param", "a")), (1, ("param", -1)), [0, INT], (0,), (0, INT, INT),
        (-1, INT), (None, INT), (0, None), (0, ["int"]), (0, ("fun", INT)), (0, ("data", "T", ())), INT, (2, fun(p(0), p(2))),
        (1, fun(p(0), p(1))), ("0", INT), (10 ** 20, INT), (0, ("param", "a")), (0, ()), (3, fun(p(0), p(2), p(1))),
    ]

    def test_which_are(self):
        for scheme in self.GOOD:
            self.assertIs(is_scheme(scheme), True, scheme)
        for scheme in self.BAD + bad_for(lambda value: False):
            self.assertIs(is_scheme(scheme), False, scheme)

    def test_instances(self):
        rows = [
            ((0, INT), INT, True), ((0, INT), u(0), False), ((0, INT), BOOL, False), ((1, p(0)), u(5), True),
            ((1, p(0)), fun(INT, u(0)), True), ((1, fun(p(0), p(0))), fun(u(1), u(1)), True),
            ((1, fun(p(0), p(0))), fun(u(1), u(2)), False), ((1, fun(p(0), p(0))), u(0), False),
            ((2, fun(p(0), p(1))), fun(INT, INT), True), ((2, fun(p(0), p(1), p(0))), fun(INT, BOOL, INT), True),
            ((2, fun(p(0), p(1), p(0))), fun(INT, BOOL, BOOL), False), ((1, ("ref", p(0))), ("array", INT), False),
            ((1, ("data", "list", (p(0),))), ("data", "list", (u(3),)), True),
            ((1, ("data", "list", (p(0),))), ("data", "M.list", (u(3),)), False),
            ((1, ("data", "t", (p(0),))), ("data", "t", ()), False),
            ((1, ("tuple", (p(0), p(0)))), ("tuple", (INT, INT, INT)), False),
            ((2, ("tuple", (p(0), p(1), ("ref", p(0))))), ("tuple", (fun(u(0), INT), BOOL, ("ref", fun(u(0), INT)))), True),
            ((1, fun(p(0), INT)), fun(BOOL, BOOL), False), ((1, deep("ref", 199, p(0))), deep("ref", 199, u(0)), True),
            ((1, deep("ref", 99, p(0))), deep("ref", 98, u(0)), False), ((1, deep("ref", 9, p(0))), deep("ref", 198, u(0)), True),
        ]
        for scheme, loose, fits in rows:
            self.assertIs(is_instance(scheme, loose), fits, (scheme, loose))

    def test_general_ones_have_what_they_are_of(self):
        for loose in TestLoose.GOOD:
            self.assertIs(is_instance(general(loose), loose), True)

    def test_texts(self):
        rows = [
            ((0, INT), "int"), ((1, fun(p(0), p(0))), "'a -> 'a"), ((2, fun(fun(p(0), p(1)), ("data", "list", (p(0),)))),
                                                                 "('a -> 'b) -> list('a)"),
            ((2, ("tuple", (("tuple", (p(0), INT)), ("ref", p(1))))), "('a * int) * ref('b)"),
        ]
        for scheme, text in rows:
            self.assertEqual(scheme_text(scheme), text)
        order = fun(*[p(k) for k in range(55)])
        letters = "abcdefghijklmnopqrstuvwxyz"
        names = list(letters) + [letter + "1" for letter in letters] + ["a2", "b2", "c2"]
        self.assertEqual(scheme_text((55, order)), " -> ".join(["'" + name for name in names]))
        self.assertEqual(scheme_text((1, deep("ref", 199, p(0)))), "ref(" * 199 + "'a" + ")" * 199)

    def test_errors(self):
        bad = self.BAD + bad_for(lambda value: False)
        look_at_errors(self, scheme_text, [("scheme", (0, INT))], [("scheme", InvalidScheme, bad)])
        look_at_errors(self, is_instance, [("scheme", (0, INT)), ("loose", INT)], [
            ("scheme", InvalidScheme, bad), ("loose", InvalidLoose, TestLoose.BAD + bad_for(is_loose))])
        keeps(self, is_instance, (1, p(0)), u(1))


if __name__ == "__main__":
    unittest.main()
