"""Replacements, unifiers, most general ones: [32]."""

import random
import unittest

from checking import bad_for, keeps, look_at_errors

from changedsame.errors import InvalidLoose, InvalidReplacement
from changedsame.kinds import is_loose
from changedsame.unify import is_most_general, is_unifier, replaced, unified

INT, BOOL = ("int",), ("bool",)


def u(k):
    return ("unknown", k)


def fun(one, other):
    return ("fun", one, other)


def pair(*types):
    return ("tuple", types)


def random_type(rand, depth, many=4):
    if depth == 0 or rand.random() < 0.25:
        return rand.choice([u(rand.randrange(many))] * 4 + [INT, BOOL])
    word = rand.choice(["fun", "ref", "tuple", "data", "tuple"])
    if word == "fun":
        return fun(random_type(rand, depth - 1, many), random_type(rand, depth - 1, many))
    if word == "ref":
        return ("ref", random_type(rand, depth - 1, many))
    parts = tuple(random_type(rand, depth - 1, many) for _ in range(rand.choice([2, 2, 3])))
    return ("tuple", parts) if word == "tuple" else ("data", rand.choice(["t", "M.t"]), parts)


def inner(loose):
    return [part for part in loose[1:] if isinstance(part, tuple) and part and isinstance(part[0], str)] + [
        part for parts in loose[1:] if isinstance(parts, tuple) and parts and isinstance(parts[0], tuple) for part in parts]


def numbers_in(loose):
    return {loose[1]} if loose[0] == "unknown" else set().union(*[numbers_in(part) for part in inner(loose)])


def put(loose, table):
    if loose[0] == "unknown":
        return table.get(loose[1], loose)
    return tuple(put(part, table) if isinstance(part, tuple) and part and isinstance(part[0], str)
                 else tuple(put(one, table) for one in part) if isinstance(part, tuple) else part for part in loose)


def naive(one, other):
    """The book's way: the first place at which both are unlike, one unknown after another."""
    table = {}
    work = [(one, other)]
    while work:
        a, b = work.pop()
        a, b = put(a, table), put(b, table)
        if a == b:
            continue
        if a[0] != "unknown":
            a, b = b, a
        if a[0] == "unknown":
            if a[1] in numbers_in(b):
                return None
            table = {k: put(v, {a[1]: b}) for k, v in table.items()}
            table[a[1]] = b
        elif put(a, {}) and (a[0], len(inner(a))) == (b[0], len(inner(b))) and (a[0] != "data" or a[1] == b[1]):
            if not inner(a):
                return None
            work.extend(zip(inner(a), inner(b)))
        else:
            return None
    return table


class TestReplaced(unittest.TestCase):
    def test_all_at_once(self):
        self.assertEqual(replaced(fun(u(0), u(1)), [(0, u(1)), (1, u(0))]), fun(u(1), u(0)))
        self.assertEqual(replaced(u(0), ((0, ("ref", u(0))),)), ("ref", u(0)))
        self.assertEqual(replaced(pair(u(0), u(2), INT), [(0, INT), (1, BOOL)]), pair(INT, u(2), INT))
        self.assertEqual(replaced(("data", "t", (u(0), ("array", u(0)))), [(0, BOOL)]), ("data", "t", (BOOL, ("array", BOOL))))
        self.assertEqual(replaced(u(3), []), u(3))
        self.assertEqual(replaced(INT, [(k, INT) for k in range(60)]), INT)

    def test_errors(self):
        bad = [None, 1, "x", {}, {0: INT}, (0, INT), [(0, INT), (0, INT)], [(0, INT), (1, BOOL), (0, u(0))], [[0, INT]], [(0,)],
               [(0, INT, INT)], [(True, INT)], [(-1, INT)], [("0", INT)], [(0, ("param", "a"))], [(0, None)], [(0, ("unknown", True))],
               [None], [()], [(k, INT) for k in range(61)], set(), b"", [(0, INT), None], [(0, ["int"])]]
        look_at_errors(self, replaced, [("loose", u(0)), ("parts", [(0, INT)])], [
            ("loose", InvalidLoose, bad_for(is_loose) + [("param", 0)]), ("parts", InvalidReplacement, bad)])
        keeps(self, replaced, u(0), [(0, ("ref", u(0)))])
        for value in bad:
            if value != [(k, INT) for k in range(61)]:
                self.assertIs(is_unifier(u(0), u(0), value), False, value)
                self.assertIs(is_most_general(u(0), u(0), value), False, value)


class TestUnified(unittest.TestCase):
    def test_rows(self):
        rows = [
            (INT, INT, True), (INT, BOOL, False), (u(0), u(0), True), (u(0), u(1), True), (u(0), INT, True), (INT, u(0), True),
            (u(0), ("ref", u(0)), False), (("ref", u(0)), u(0), False), (fun(u(0), u(1)), fun(u(1), ("ref", u(0))), False),
            (fun(u(0), u(1)), fun(("ref", u(1)), ("ref", u(0))), False), (("ref", INT), ("array", INT), False),
            (fun(u(0), u(0)), fun(INT, BOOL), False), (fun(u(0), INT), fun(INT, u(0)), True), (pair(u(0), u(1)), pair(INT, BOOL, INT), False),
            (("data", "t", (u(0),)), ("data", "M.t", (u(0),)), False), (("data", "t", (u(0),)), ("data", "t", ()), False),
            (("data", "t", (u(0), INT)), ("data", "t", (BOOL, u(1))), True), (pair(u(0), u(0)), pair(u(1), ("ref", u(1))), False),
            (pair(u(0), u(1), u(2)), pair(u(1), u(2), ("ref", u(0))), False), (pair(u(0), u(1), u(2)), pair(u(1), u(2), u(0)), True),
            (("unit",), ("exn",), False), (INT, ("data", "int1", ()), False), (fun(INT, INT), pair(INT, INT), False),
        ]
        for one, other, can in rows:
            for first, last in ((one, other), (other, one)):
                found = unified(first, last)
                self.assertEqual(found is not None, can, (first, last))
                if can:
                    self.assertIsInstance(found, list)
                    self.assertIs(is_unifier(first, last, found), True)
                    self.assertIs(is_most_general(first, last, found), True)
                    self.assertEqual(replaced(first, found), replaced(last, found))
        self.assertEqual(unified(INT, INT), [])

    def test_types_that_share_parts(self):
        """A pair of pairs of pairs .. would be as long as two times two times two .."""
        many = 22
        rows = [u(k) for k in range(many)], [u(100 + k) for k in range(many)]
        one, other = INT, INT
        for k in range(many - 1):
            one = fun(fun(rows[0][k], rows[1][k]), one)
            other = fun(fun(pair(rows[0][k + 1], rows[0][k + 1]), pair(rows[1][k + 1], rows[1][k + 1])), other)
        one, other = fun(rows[0][0], one), fun(rows[1][0], other)
        self.assertIs(is_loose(one) and is_loose(other), True)
        self.assertIsNotNone(unified(one, other))

    def test_long_chains(self):
        deep, other = u(0), u(1)
        for _ in range(199):
            deep, other = ("ref", deep), ("ref", other)
        self.assertEqual(len(unified(deep, other)), 1)
        self.assertIsNone(unified(deep, ("ref", ("ref", u(0)))))

    def test_random_ones(self):
        rand = random.Random(5)
        tally = {True: 0, False: 0}
        for _ in range(3000):
            one, other = random_type(rand, 3), random_type(rand, 3)
            told, found = naive(one, other), unified(one, other)
            self.assertEqual(told is None, found is None, (one, other))
            tally[told is None] += 1
            if told is not None:
                parts = list(told.items())
                for value in (parts, found):
                    if all(is_loose(part[1]) for part in value):
                        self.assertIs(is_unifier(one, other, value), True)
                        self.assertIs(is_most_general(one, other, value), True)
                self.most_general_ones(rand, one, other, told)
        self.assertGreater(min(tally.values()), 300)

    def most_general_ones(self, rand, one, other, table):
        """A replacement is as general behind an exchange of unknowns, and less so behind any other change."""
        numbers = list(range(6))
        exchanged = numbers[:]
        rand.shuffle(exchanged)
        for change, keeps_all in (({k: u(j) for k, j in zip(numbers, exchanged)}, True), ({4: u(5)}, False),
                                  ({5: INT}, False), ({4: ("ref", u(4))}, False), ({5: u(77)}, False), ({5: u(77), 77: u(5)}, True)):
            further = {k: put(put(u(k), table), change) for k in list(numbers) + list(change)}
            if all(is_loose(loose) for loose in further.values()):
                self.assertIs(is_unifier(one, other, list(further.items())), True)
                self.assertIs(is_most_general(one, other, list(further.items())), keeps_all, (one, other, further))

    def test_not_most_general(self):
        rows = [
            (u(0), u(1), [(0, INT), (1, INT)], True, False), (u(0), u(1), [(0, u(2)), (1, u(2))], True, False),
            (u(0), u(1), [(0, u(2)), (1, u(2)), (2, u(0))], True, True), (u(0), u(1), [(1, u(0))], True, True),
            (u(0), u(1), [(0, u(1)), (5, INT)], True, False), (u(0), u(1), [(0, u(1)), (5, u(6))], True, False),
            (u(0), u(1), [(0, u(1)), (5, u(6)), (6, u(5))], True, True), (u(0), u(1), [], False, False),
            (u(0), u(1), [(0, u(1)), (1, u(0))], False, False), (INT, INT, [(0, u(1))], True, False), (INT, INT, [(0, u(0))], True, True),
            (INT, INT, [(0, u(1)), (1, u(0))], True, True), (INT, BOOL, [], False, False), (u(0), INT, [(0, INT)], True, True),
            (u(0), ("ref", u(1)), [(0, ("ref", u(1)))], True, True), (u(0), ("ref", u(1)), [(0, ("ref", INT)), (1, INT)], True, False),
            (u(0), ("ref", u(1)), [(0, ("ref", u(0))), (1, u(0))], True, True),
            (u(0), ("ref", u(1)), [(0, ("ref", u(2))), (1, u(2)), (2, u(1))], True, True),
        ]
        for one, other, value, unifies, is_general in rows:
            self.assertIs(is_unifier(one, other, value), unifies, value)
            self.assertIs(is_unifier(one, other, tuple(value)), unifies, value)
            self.assertIs(is_most_general(one, other, value), is_general, value)

    def test_errors(self):
        bad = bad_for(is_loose) + [("param", 0), ("param", "a"), ("unknown", True)]
        look_at_errors(self, unified, [("one", u(0)), ("other", INT)], [("one", InvalidLoose, bad), ("other", InvalidLoose, bad)])
        for call in (is_unifier, is_most_general):
            look_at_errors(self, call, [("one", u(0)), ("other", INT), ("value", [(0, INT)])], [
                ("one", InvalidLoose, bad), ("other", InvalidLoose, bad)])
            for value in bad_for(lambda value: False):
                self.assertIs(call(u(0), INT, value), False, value)
        keeps(self, unified, u(0), ("ref", u(1)))
        keeps(self, is_most_general, u(0), u(1), [(0, u(1))])


if __name__ == "__main__":
    unittest.main()
