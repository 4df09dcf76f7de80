"""Fitting, shapes, useless patterns: [43], [44], [45], and the limit of the plain tree."""

import random
import unittest

from brute import TEXT, random_pattern, random_patterns, random_sort, values_for
from checking import bad_for, keeps, look_at_errors

from changedsame.covers import do_fit, is_uncovered, uncovered, useless
from changedsame.decisions import decided, plain_tree
from changedsame.errors import InvalidPatterns, InvalidWhole, TooMany
from changedsame.matches import first_rule, is_plain
from changedsame.parser import parse, parse_expr
from changedsame.wholes import resolved

WHOLE = resolved(parse(TEXT))
ANY, HOLE, UNIT = ("any",), ("cell", 0), ("unit",)
NOT_PATTERNS = [None, 1, "x", [], (), {}, ANY, [ANY] * 9, [ANY, 1], [("tuple", (("bind", "x"), ("bind", "x")))], [["any"]], [("cell", 0)]]


def patterns_of(text):
    """The patterns of rules that are parted by bars; long names as they stand."""
    rules = " | ".join([part + " -> x" for part in text.split("|")])
    return [rule[0] for rule in parse_expr("match x with " + rules + " end")[2]]


def value_of(text):
    """A plain value written as a pattern, with _ for a hole."""
    def walk(pattern):
        if pattern == ANY:
            return HOLE
        if pattern[0] == "tuple":
            return ("tuple", tuple(walk(part) for part in pattern[1]))
        return ("con", pattern[1], None if pattern[2] is None else walk(pattern[2])) if pattern[0] == "con" else pattern
    return walk(patterns_of(text)[0])


def wide(seed):
    """Patterns of which the plain tree has too many tests."""
    rand = random.Random(seed)
    return [("tuple", tuple(("tuple", tuple(rand.choice([ANY, ANY, ("int", k)]) for _ in range(4))) for _ in range(4)))
            for k in range(8)]


def long_way(many):
    """Patterns of which the plain tree has just so many tests on a way: numbers in a row of tuples."""
    rows = []
    for k in range(many):
        rows.append(("int", 1))
    while len(rows) > 1:
        rows = [("tuple", tuple(rows[k:k + 4])) if len(rows[k:k + 4]) > 1 else rows[k] for k in range(0, len(rows), 4)]
    return [rows[0]]


class TestFit(unittest.TestCase):
    def test_which_do(self):
        for text in ("_", "x", "1 | 2 | _", "true | false", "() | ()", "Nil | Cons (x, Nil)", "M.A | M.B 1 | M.C (1, true)",
                     "DivZero | M.E 1 | M.F | NoMatch", "(1, true) | (x, _) | (_, false)", "Some 1 | None | Some 2",
                     "Some true | x", "Some (Some 1) | Some None | Some _", "(M.B 1, M.B 2) | (M.A, _)", "Cons (1, Cons (2, _)) | Nil",
                     "Cons (1, _) | Cons (_, true)", "M.Only (1) | _"):
            self.assertIs(do_fit(WHOLE, patterns_of(text)), True, text)
            self.assertIs(do_fit(WHOLE, tuple(patterns_of(text))), True, text)

    def test_which_do_not(self):
        for text in ("1 | true", "1 | ()", "true | M.A", "Nil | None", "Nil | M.A", "DivZero | M.A", "(_, _) | (_, _, _)", "(_, _) | 1",
                     "(_, _) | Nil", "A", "B 1", "E 1", "M.X", "N.A", "Nil _", "Cons", "M.A 1", "M.B", "M.F _", "M.E", "Some",
                     "Some 1 | Some true", "(1, _) | (true, _)", "M.C (1, 2) | M.C (_, true)", "Cons (1, _) | Cons (true, _)", "_ | X",
                     "(_, (_, Cons)) | _", "Cons (1, Cons (true, _)) | Cons (_, Cons (2, _))", "M.T 1"):
            self.assertIs(do_fit(WHOLE, patterns_of(text)), False, text)

    def test_like_sorts_at_each_place_alone(self):
        """What stands at other places may be of other sorts, even if no value has both types."""
        self.assertIs(do_fit(WHOLE, patterns_of("Cons (1, Cons (true, _))")), True)
        self.assertIs(do_fit(WHOLE, patterns_of("M.B true | M.C (1, 1)")), True)
        self.assertIs(do_fit(WHOLE, patterns_of("Some 1 | None")), True)

    def test_own_names(self):
        whole = resolved(parse("module M = type list = Nil of int | Other end"))
        self.assertIs(do_fit(whole, [("con", "M.Nil", ANY), ("con", "M.Other", None)]), True)
        self.assertIs(do_fit(whole, [("con", "M.Nil", ANY), ("con", "Nil", None)]), False)
        self.assertIs(do_fit(whole, [("con", "Nil", None), ("con", "Cons", ANY)]), True)

    def test_values_of_all_kinds(self):
        for value in bad_for(lambda value: value == (("int", 1),)) + NOT_PATTERNS:
            self.assertIs(do_fit(WHOLE, value), False, value)
        self.assertIs(do_fit(WHOLE, (("int", 1),)), True)
        look_at_errors(self, do_fit, [("whole", WHOLE), ("value", [ANY])], [("whole", InvalidWhole, bad_for(lambda value: False))])


class TestShapes(unittest.TestCase):
    def test_is_uncovered(self):
        rows = [
            ("M.A", "M.B _", True), ("M.A", "_", False), ("M.A", "M.A", False), ("M.A", "M.C _", True), ("M.A", "M.C (1, true)", True),
            ("M.A", "M.C (true, 1)", True), ("M.A", "M.C _ | M.B _", True), ("M.A", "M.B", False), ("M.A", "M.A _", False),
            ("M.A", "Nil", False), ("M.A", "1", False), ("M.A", "M.X", False), ("M.A | M.B 1", "M.B 2", True),
            ("M.A | M.B 1", "M.B _", False), ("M.A | M.B 1", "M.B 1", False), ("M.A | M.B 1", "M.B true", False), ("1", "2", True),
            ("1 | 2", "3", True), ("1 | 2", "2", False), ("true", "false", True), ("true", "_", False), ("true", "1", False),
            ("true | false", "true", False), ("()", "()", False), ("()", "_", False), ("x", "1", False), ("(1, _)", "(2, _)", True),
            ("(1, _)", "(2, 7)", True), ("(1, _)", "(2, Zz)", True), ("(1, _)", "(2, ((1, 2), true))", True), ("(1, _)", "(_, 2)", False),
            ("(1, _)", "2", False), ("(1, _)", "(2, 3, 4)", False), ("(1, 2) | (2, 1)", "(1, 1)", True), ("(1, 2) | (2, 1)", "(3, _)", True),
            ("(1, 2) | (2, 1)", "(1, _)", False), ("DivZero | NoMore", "NoMatch", True), ("DivZero | NoMore", "M.E _", True),
            ("DivZero | NoMore", "M.E true", True), ("DivZero | M.E 1", "M.E true", False), ("Nil | Cons (_, Nil)", "Cons (_, Cons _)", True),
            ("Nil | Cons (_, Nil)", "Cons (1, Cons (_, _))", True), ("Nil | Cons (_, Nil)", "Cons _", False),
            ("Nil | Cons (_, Nil)", "Cons (_, Cons)", False), ("(1, 2)", "(_, 1)", True), ("Some 1 | None", "Some 2", True),
        ]
        for patterns, shape, told in rows:
            patterns = patterns_of(patterns)
            self.assertIs(is_uncovered(WHOLE, patterns, value_of(shape)), told, (patterns, shape))

    def test_other_cells(self):
        one = patterns_of("(1, _)")
        self.assertIs(is_uncovered(WHOLE, one, ("tuple", (("int", 2), ("cell", 5)))), True)
        self.assertIs(is_uncovered(WHOLE, one, ("tuple", (("cell", 5), ("cell", 5)))), False)
        self.assertIs(is_uncovered(WHOLE, one, ("cell", 5)), False)
        self.assertIs(is_uncovered(WHOLE, one, HOLE), False)
        self.assertIs(is_uncovered(WHOLE, patterns_of("true"), ("cell", 5)), False)

    def test_values_of_all_kinds(self):
        for value in bad_for(lambda value: False) + [("int", True), ("bool", 1), ("int", 2 ** 31), ANY, ("cell", True)]:
            self.assertIs(is_uncovered(WHOLE, patterns_of("1"), value), value in (("int", 2),), value)
        self.assertIs(is_uncovered(WHOLE, patterns_of("true"), ("bool", 0)), False)
        deep = HOLE
        for _ in range(39):
            deep = ("con", "Some", deep)
        self.assertIs(is_uncovered(WHOLE, patterns_of("None"), deep), True)
        self.assertIs(is_uncovered(WHOLE, patterns_of("None"), ("con", "Some", deep)), False)

    def test_uncovered(self):
        for text, told in (("_", None), ("Nil | Cons _", None), ("true | false", None), ("()", None), ("M.Only _", None),
                           ("M.A | M.B _ | M.C (_, true) | M.C (_, false)", None), ("1 | x", None), ("(true, _) | (false, _)", None)):
            self.assertIsNone(uncovered(WHOLE, patterns_of(text)), text)
        for text in ("Nil", "1", "0 | 1 | 2 | 3", "true", "false", "M.Only 1", "M.A | M.B _", "DivZero | Bounds | NoMore | NoMatch | M.E _",
                     "M.C (1, true) | M.C (_, false) | M.A | M.B 0", "(true, false) | (false, true)", "Cons (_, Cons (_, Nil)) | Nil",
                     "(0, (1, (2, 3)))", "Some (Some (Some None))"):
            patterns = patterns_of(text)
            shape = uncovered(WHOLE, patterns)
            self.assertIs(is_plain(shape), True)
            self.assertIs(is_uncovered(WHOLE, patterns, shape), True, (text, shape))

    def test_deepest_ones(self):
        for inside in (("int", 0), ("bool", False), ("con", "DivZero", None)):
            pattern, other = inside, inside
            for _ in range(39):
                pattern, other = ("tuple", (ANY, pattern)), ("con", "M.Only", other)
            for one in (pattern, other):
                shape = uncovered(WHOLE, [one])
                self.assertIs(is_uncovered(WHOLE, [one], shape), True)

    def test_useless(self):
        for text, told in (("_", []), ("_ | x", [1]), ("1 | 1", [1]), ("1 | x | 2", [2]), ("true | false | _", [2]),
                           ("Nil | Cons _ | _ | Nil", [2, 3]), ("(true, _) | (_, true) | (true, true) | (false, false) | _", [2, 4]),
                           ("M.Only 1 | M.Only x | _", [2]), ("(1, 2) | (_, 2) | (1, _) | (1, 2)", [3]), ("() | _", [1]),
                           ("DivZero | M.E _ | _ | M.F", [3]), ("M.C (_, true) | M.C (1, _) | M.C (1, false) | M.C (2, true)", [2, 3])):
            self.assertEqual(useless(WHOLE, patterns_of(text)), told, text)

    def test_against_all_values(self):
        for seed in range(600):
            rand = random.Random(seed)
            sort = random_sort(rand, 4)
            patterns = random_patterns(rand, sort, rand.randint(1, 6))
            values = values_for(patterns)
            if values is None:
                continue
            self.assertIs(do_fit(WHOLE, patterns), True)
            firsts = [first_rule(patterns, value) for value in values]
            self.assertEqual(useless(WHOLE, patterns), [k for k in range(len(patterns)) if k not in firsts])
            shape = uncovered(WHOLE, patterns)
            self.assertEqual(shape is None, None not in firsts)
            if shape is not None:
                self.assertIs(is_uncovered(WHOLE, patterns, shape), True)
            for value, first in zip(values, firsts):
                self.assertIs(is_uncovered(WHOLE, patterns, value), first is None)
            self.shapes(patterns, rand, sort)

    def shapes(self, patterns, rand, sort):
        """A shape is refused by a pattern exactly if no value that fills it is matched."""
        pattern = random_pattern(rand, sort)
        shape = value_of_pattern(pattern)
        values = values_for(patterns + [pattern])
        if values is not None and is_plain(shape):
            filled = [value for value in values if fills(value, shape)]
            told = all(not any(first_rule([one], value) == 0 for value in filled) for one in patterns)
            self.assertIs(is_uncovered(WHOLE, patterns, shape), told, (patterns, shape))


def value_of_pattern(pattern):
    if pattern == ANY:
        return HOLE
    if pattern[0] == "tuple":
        return ("tuple", tuple(value_of_pattern(part) for part in pattern[1]))
    if pattern[0] == "con" and pattern[2] is not None:
        return ("con", pattern[1], value_of_pattern(pattern[2]))
    return pattern


def fills(value, shape):
    if shape == HOLE:
        return True
    if value[0] == "cell" or shape[0] != value[0]:
        return False
    if shape[0] == "tuple":
        return all(fills(one, other) for one, other in zip(value[1], shape[1]))
    if shape[0] == "con" and shape[2] is not None:
        return value[1] == shape[1] and fills(value[2], shape[2])
    return value == shape


class TestErrors(unittest.TestCase):
    def test_parameters(self):
        bad = NOT_PATTERNS + [patterns_of(text) for text in ("1 | true", "A", "Nil _", "(_, _) | Nil")]
        for call in (uncovered, useless, plain_tree, decided):
            look_at_errors(self, call, [("whole", WHOLE), ("patterns", [ANY])], [
                ("whole", InvalidWhole, bad_for(lambda value: False)), ("patterns", InvalidPatterns, bad)])
            keeps(self, call, WHOLE, patterns_of("1 | 2"))
        look_at_errors(self, is_uncovered, [("whole", WHOLE), ("patterns", [ANY]), ("value", HOLE)], [
            ("whole", InvalidWhole, bad_for(lambda value: False)), ("patterns", InvalidPatterns, bad)])

    def test_too_many_tests(self):
        patterns = wide(1)
        self.assertIs(do_fit(WHOLE, patterns), True)
        for call in (uncovered, useless, plain_tree, decided):
            for rows in (patterns, long_way(37)):
                with self.assertRaises(TooMany) as caught:
                    call(WHOLE, rows)
                self.assertEqual((caught.exception.what, caught.exception.limit), ("tests", 400))
            call(WHOLE, long_way(36))
            with self.assertRaises(InvalidPatterns):
                call(WHOLE, patterns + [("int", 1)])
        self.assertIs(is_uncovered(WHOLE, patterns, HOLE), False)
        self.assertIs(is_uncovered(WHOLE, patterns, ("tuple", (("tuple", (("int", 9),) * 4),) * 4)), True)


if __name__ == "__main__":
    unittest.main()
