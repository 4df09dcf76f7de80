"""Wrapping, cells, and what is reached: [5], [51], [52]."""

import random
import unittest

from checking import ODD, bad_for, error_of, keeps, look_at_errors

from changedsame.errors import (
    InvalidCell, InvalidField, InvalidFields, InvalidNumber, InvalidRoots, InvalidSort, InvalidSpot, InvalidStore)
from changedsame.stores import Store, reachable, wrapped


class TestWrapped(unittest.TestCase):
    def test_numbers(self):
        for number, told in [
                (0, 0), (5, 5), (-5, -5), (2147483647, 2147483647), (2147483648, -2147483648), (-2147483648, -2147483648),
                (-2147483649, 2147483647), (4294967295, -1), (4294967296, 0), (-4294967296, 0), (6442450944, -2147483648),
                (10 ** 29, (10 ** 29 + 2 ** 31) % 2 ** 32 - 2 ** 31), (-10 ** 29, (-10 ** 29 + 2 ** 31) % 2 ** 32 - 2 ** 31)]:
            self.assertEqual(wrapped(number), told)
            self.assertIs(type(wrapped(number)), int)

    def test_errors(self):
        look_at_errors(self, wrapped, [("number", 1)],
                       [("number", InvalidNumber, bad_for(lambda v: isinstance(v, int) and not isinstance(v, bool)))])


class TestStore(unittest.TestCase):
    def test_cells_of_all_kinds(self):
        store = Store()
        self.assertEqual(store.many, 0)
        self.assertEqual(store.make("ref", [("int", 1)]), 0)
        self.assertEqual(store.make("array", []), 1)
        self.assertEqual(store.make("array", [("cell", 0)] * 64), 2)
        self.assertEqual(store.make("closure", ()), 3)
        self.assertEqual(store.make("closure", [("cell", 2)] * 40), 4)
        self.assertEqual(store.make(kind="ref", fields=(("con", "M.C", ("tuple", (("unit",), ("bool", True)))),)), 5)
        self.assertEqual(store.many, 6)
        self.assertEqual([store.kind_of(cell) for cell in range(6)], ["ref", "array", "array", "closure", "closure", "ref"])
        self.assertEqual([len(store.fields(cell)) for cell in range(6)], [1, 0, 64, 0, 40, 1])
        self.assertEqual(store.fields(5), [("con", "M.C", ("tuple", (("unit",), ("bool", True))))])

    def test_fields_are_set(self):
        store = Store()
        store.make("ref", [("int", 1)])
        store.make("array", [("int", 2), ("int", 3)])
        self.assertIsNone(store.put(0, 0, ("cell", 0)))
        self.assertEqual(store.fields(0), [("cell", 0)])
        store.put(cell=1, spot=1, value=("tuple", (("cell", 0), ("cell", 1))))
        self.assertEqual(store.fields(1), [("int", 2), ("tuple", (("cell", 0), ("cell", 1)))])
        store.put(1, 1, ("unit",))
        self.assertEqual(store.fields(1), [("int", 2), ("unit",)])

    def test_lists_are_copied(self):
        store, other = Store(), Store()
        fields = [("int", 1), ("int", 2)]
        store.make("array", fields)
        fields.append(("int", 3))
        self.assertEqual(store.fields(0), [("int", 1), ("int", 2)])
        keeps(self, store.fields, 0).append(1)
        self.assertEqual(store.fields(0), [("int", 1), ("int", 2)])
        self.assertEqual(other.many, 0)
        self.assertIsInstance(error_of(other.fields, 0), InvalidCell)

    def test_what_is_refused_changes_nothing(self):
        store = Store()
        store.make("ref", [("int", 1)])
        store.make("closure", [("int", 1)])
        store.make("array", [("int", 1)])
        fields = [[("int", 1)], [("int", 1)], [("int", 1)]]
        is_word = lambda value: isinstance(value, str) and value in ("ref", "array", "closure")
        bad_kinds = bad_for(is_word) + ["Ref", "cell", "int"]
        bad_fields = ODD + [[("int", 1), ("int", 2)], [("cell", 3)], [("cell", -1)], [("cell", True)], [("int", 2 ** 31)],
                            [("tuple", (("cell", 4), ("unit",)))], [["int", 1]], [("con", "C", ("cell", 9))]]
        look_at_errors(self, Store().make, [("kind", "ref"), ("fields", [("int", 1)])],
                       [("kind", InvalidSort, bad_kinds), ("fields", InvalidFields, [
                           value for value in bad_fields if value != (("int", 1),)])])
        for kind, most in [("ref", 1), ("array", 64), ("closure", 40)]:
            self.assertIsInstance(error_of(store.make, kind, [("int", 1)] * (most + 1)), InvalidFields)
        self.assertIsInstance(error_of(store.make, "ref", []), InvalidFields)
        bad_cells = bad_for(lambda value: type(value) is int and value in (0, 1)) + [3, -1]
        for call in (store.kind_of, store.fields):
            look_at_errors(self, call, [("cell", 0)], [("cell", InvalidCell, bad_cells)])
        bad_spots = bad_for(lambda value: type(value) is int and value == 0)
        bad_values = ODD[:24] + [("cell", 3), ("int", True), ["int", 1], ("con", "c", None)]
        look_at_errors(self, store.put, [("cell", 2), ("spot", 0), ("value", ("int", 1))], [
            ("cell", InvalidCell, [value for value in bad_cells if value != 0 or value is False] + [1]),
            ("spot", InvalidSpot, bad_spots), ("value", InvalidField, bad_values)])
        self.assertEqual(store.many, 3)
        self.assertEqual([store.fields(cell) for cell in range(3)], fields)

    def test_large_values(self):
        store = Store()
        deep = ("unit",)
        for _ in range(39):
            deep = ("con", "C", deep)
        self.assertEqual(store.make("ref", [deep]), 0)
        self.assertIsInstance(error_of(store.make, "ref", [("con", "C", deep)]), InvalidFields)
        self.assertIsInstance(error_of(store.put, 0, 0, ("con", "C", deep)), InvalidField)


class TestReachable(unittest.TestCase):
    def test_roots(self):
        store = Store()
        for k in range(6):
            store.make("array", [("unit",)] * 3)
        self.assertEqual(reachable(store, []), [])
        self.assertEqual(reachable(store, [("int", 1), ("unit",)]), [])
        self.assertEqual(reachable(store, (("cell", 4), ("con", "C", ("tuple", (("cell", 1), ("cell", 4)))))), [1, 4])
        store.put(1, 0, ("cell", 2))
        store.put(2, 2, ("tuple", (("unit",), ("con", "C", ("cell", 1)))))
        self.assertEqual(reachable(store, [("cell", 1)]), [1, 2])
        self.assertEqual(reachable(store, [("cell", 2), ("cell", 5)]), [1, 2, 5])
        self.assertEqual(reachable(store, [("con", "Nil", None), ("tuple", (("con", "Nil", None), ("cell", 3)))]), [3])
        store.put(5, 1, ("cell", 5))
        self.assertEqual(keeps(self, lambda roots: reachable(store, roots), [("cell", 5)]), [5])
        self.assertEqual(reachable(store, [("cell", 0)] * 200), [0])

    def test_random_stores(self):
        rand = random.Random(3)
        for _ in range(200):
            store = Store()
            many = rand.randint(1, 9)
            for _ in range(many):
                store.make("array", [("unit",)] * 2)
            ways = {cell: [] for cell in range(many)}
            for cell in range(many):
                for spot in range(2):
                    if rand.random() < 0.5:
                        to = rand.randrange(many)
                        ways[cell].append(to)
                        store.put(cell, spot, ("tuple", (("cell", to), ("int", 1))))
            roots = [rand.randrange(many) for _ in range(rand.randint(0, 2))]
            found = set(roots)
            for _ in range(many):
                found |= {to for cell in found for to in ways[cell]}
            self.assertEqual(reachable(store, [("cell", root) for root in roots]), sorted(found))

    def test_errors(self):
        store = Store()
        store.make("ref", [("int", 1)])
        bad_roots = bad_for(lambda value: isinstance(value, (list, tuple)) and value in ([], (), (("int", 1),))) + [
            [("cell", 1)], [("int", 1)] * 201, [("int", 1), ("cell", True)], ("cell", 0), [["cell", 0]]]
        look_at_errors(self, reachable, [("store", store), ("roots", [])],
                       [("store", InvalidStore, ODD), ("roots", InvalidRoots, bad_roots)])


if __name__ == "__main__":
    unittest.main()
