"""Plain values and matching: [41], [42]."""

import unittest

from checking import bad_for, keeps, look_at_errors

from changedsame.errors import InvalidPattern, InvalidPatterns, InvalidValue
from changedsame.matches import bindings, first_rule, is_plain
from changedsame.trees import is_pattern

ONE, UNIT, CELL = ("int", 1), ("unit",), ("cell", 0)
ANY, BIND = ("any",), ("bind", "x")


def chain(many, inside=UNIT):
    for _ in range(many - 1):
        inside = ("con", "C", inside)
    return inside


def exactly(many):
    """A plain value of just so many parts, not deep."""
    if many <= 2:
        return chain(many)
    half = (many - 1) // 2
    return ("tuple", (exactly(half), exactly(many - 1 - half)))


class TestPlain(unittest.TestCase):
    GOOD = [ONE, ("int", -2147483648), ("int", 2147483647), ("bool", True), ("bool", False), UNIT, ("con", "C", None),
            ("con", "M.C", ONE), ("tuple", (ONE, UNIT)), ("tuple", (CELL,) * 4), CELL, ("cell", 10 ** 20)]
    BAD = [("int", True), ("int", 2147483648), ("int", -2147483649), ("int", "1"), ("int",), ("bool", 1), ("bool", 0), ("bool",),
           ("unit", None), ("con", "c", None), ("con", "M.c", None), ("con", "C"), ("con", "C", ()), ("con", "C", None, None),
           ("con", "M.N.C", None), ("tuple", (ONE,)), ("tuple", (ONE,) * 5), ("tuple", [ONE, ONE]), ("tuple", ONE, ONE), ("cell", -1),
           ("cell", True), ("cell", None), ("cell",), ("cell", 0, 0), ANY, BIND, ("var", "x"), ["unit"], (), ("con", "C", ["unit"]),
           ("tuple", (ONE, ("int", True))), ("con", "C", ("tuple", (ONE, None)))]

    def test_which_are(self):
        for value in self.GOOD:
            self.assertIs(is_plain(value), True, value)
            self.assertIs(is_plain(("con", "C", ("tuple", (value, value)))), True)
        for value in self.BAD + bad_for(lambda value: value in (ONE, UNIT)):
            self.assertIs(is_plain(value), value == ("int", 1) and value[1] is not True, value)

    def test_limits(self):
        for many in (599, 600, 601, 1000):
            self.assertIs(is_plain(exactly(many)), many <= 600)
        for many in (39, 40, 41, 50):
            self.assertIs(is_plain(chain(many)), many <= 40)
            self.assertIs(is_plain(chain(many, ("con", "C", None))), many <= 40)
        alike = UNIT
        for _ in range(45):
            alike = ("tuple", (alike,) * 4)
        self.assertIs(is_plain(alike), False)


class TestMatching(unittest.TestCase):
    def test_bindings(self):
        pair = ("tuple", (("bind", "y"), ("con", "C", ("tuple", (BIND, ("bind", "a"))))))
        rows = [
            (ANY, ONE, []), (BIND, ONE, [("x", ONE)]), (ANY, CELL, []), (BIND, ("cell", 3), [("x", ("cell", 3))]), (ONE, ONE, []),
            (ONE, ("int", 2), None), (ONE, ("bool", True), None), (ONE, CELL, None), (("bool", True), ("bool", True), []),
            (("bool", True), ("bool", False), None), (("bool", True), CELL, None), (UNIT, UNIT, []), (UNIT, CELL, None), (UNIT, ONE, None),
            (("con", "C", None), ("con", "C", None), []), (("con", "C", None), ("con", "D", None), None),
            (("con", "C", None), ("con", "M.C", None), None), (("con", "C", ANY), ("con", "C", None), None),
            (("con", "C", None), ("con", "C", ONE), None), (("con", "C", BIND), ("con", "C", ONE), [("x", ONE)]),
            (("con", "C", ANY), CELL, None), (("con", "C", ONE), ("con", "C", ("int", 2)), None),
            (("tuple", (ANY, BIND)), ("tuple", (ONE, UNIT)), [("x", UNIT)]), (("tuple", (ANY, BIND)), ("tuple", (ONE, UNIT, UNIT)), None),
            (("tuple", (ANY, ANY)), CELL, None), (("tuple", (ANY, ONE)), ("tuple", (ONE, UNIT)), None),
            (("tuple", (BIND, ONE)), ("tuple", (CELL, CELL)), None),
            (pair, ("tuple", (ONE, ("con", "C", ("tuple", (UNIT, CELL))))), [("y", ONE), ("x", UNIT), ("a", CELL)]),
            (pair, ("tuple", (ONE, ("con", "D", ("tuple", (UNIT, CELL))))), None), (UNIT, ("con", "C", None), None),
            (("con", "C", UNIT), ("tuple", (UNIT, UNIT)), None),
        ]
        for pattern, value, told in rows:
            self.assertEqual(bindings(pattern, value), told, (pattern, value))
            self.assertEqual(first_rule([pattern], value), None if told is None else 0)
            self.assertEqual(first_rule((("con", "Zz", None), pattern, ANY), value), 2 if told is None else 1)

    def test_the_first_rule(self):
        rules = [("int", 3), ("int", 1), BIND, ONE]
        self.assertEqual(first_rule(rules, ONE), 1)
        self.assertEqual(first_rule(rules, ("int", 5)), 2)
        self.assertEqual(first_rule(rules[:2], ("int", 5)), None)
        self.assertEqual(first_rule(rules[:2], CELL), None)
        self.assertEqual(first_rule([ANY] * 8, CELL), 0)
        self.assertEqual(first_rule([("int", k) for k in range(8)], ("int", 7)), 7)

    def test_deep_ones(self):
        pattern = BIND
        for _ in range(39):
            pattern = ("con", "C", pattern)
        self.assertEqual(bindings(pattern, chain(40)), [("x", UNIT)])
        self.assertIsNone(bindings(pattern, chain(39)))

    def test_errors(self):
        patterns = bad_for(is_pattern) + [("tuple", (BIND, BIND)), ("cell", 0), ("var", "x")]
        values = bad_for(is_plain) + TestPlain.BAD + [exactly(601), chain(41)]
        look_at_errors(self, bindings, [("pattern", BIND), ("value", ONE)], [
            ("pattern", InvalidPattern, patterns), ("value", InvalidValue, values)])
        rows = [[], (), None, ANY, BIND, [ANY] * 9, [ANY, None], [["any"]], {0: ANY}, "any", [ANY, ("tuple", (BIND, BIND))], [()], 1, b"",
                [("cell", 0)], set()]
        look_at_errors(self, first_rule, [("patterns", [BIND]), ("value", ONE)], [
            ("patterns", InvalidPatterns, rows), ("value", InvalidValue, values)])
        keeps(self, bindings, BIND, ONE)
        keeps(self, first_rule, [BIND], ONE)


if __name__ == "__main__":
    unittest.main()
