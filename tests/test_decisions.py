"""Trees, deciding, right trees, the plain tree: [46], [47], [48]."""

import random
import unittest

from brute import TEXT, random_patterns, random_sort, values_for
from checking import bad_for, keeps, look_at_errors
from test_covers import ANY, NOT_PATTERNS, WHOLE, long_way, patterns_of, value_of, wide

from changedsame.decisions import decide, decided, is_decision, is_tree, plain_tree
from changedsame.errors import InvalidPatterns, InvalidTree, InvalidValue, InvalidWhole, NotThere
from changedsame.matches import first_rule, is_plain
from changedsame.parser import parse
from changedsame.wholes import resolved

FAIL = ("fail",)


def leaf(k):
    return ("leaf", k)


def test(path, kind, branches, default=None):
    return ("test", path, kind, tuple(branches), default)


def chain(many):
    """A tree of this depth."""
    tree = FAIL
    for _ in range(many - 1):
        tree = test((), "int", [(0, tree)])
    return tree


class TestTrees(unittest.TestCase):
    GOOD = [
        leaf(0), leaf(10 ** 20), FAIL, test((), "int", [(5, FAIL)]), test((0, 3, "M.C", "Nil"), "con", [("Nil", FAIL), ("M.C", leaf(1))]),
        test((), "bool", [(True, FAIL), (False, FAIL)], FAIL), test((), "bool", [(False, leaf(0))]), test((9,), "int", [(-1, FAIL)], leaf(2)),
        test((), "int", [(k, FAIL) for k in range(40)], FAIL), test((), "int", [(0, FAIL), (1, FAIL), (2147483647, FAIL), (-2147483648, FAIL)]),
    ]
    BAD = [
        ("leaf",), ("leaf", -1), ("leaf", True), ("leaf", None), ("leaf", 0, 0), ("fail", None), ["fail"], (), ("test",), ("leaf", "0"),
        test([], "int", [(0, FAIL)]), test((True,), "int", [(0, FAIL)]), test((-1,), "int", [(0, FAIL)]), test(("x",), "int", [(0, FAIL)]),
        test((None,), "int", [(0, FAIL)]), test(("M.x",), "int", [(0, FAIL)]), test(0, "int", [(0, FAIL)]), test((), "unit", [(0, FAIL)]),
        test((), "tuple", [(0, FAIL)]), test((), None, [(0, FAIL)]), test((), ["int"], [(0, FAIL)]), test((), "int", []),
        test((), "int", [(True, FAIL)]), test((), "int", [(2 ** 31, FAIL)]), test((), "int", [("Nil", FAIL)]), test((), "bool", [(1, FAIL)]),
        test((), "bool", [(0, FAIL)]), test((), "con", [("x", FAIL)]), test((), "con", [(0, FAIL)]), test((), "con", [("M.x", FAIL)]),
        test((), "con", [(["Nil"], FAIL)]), test((), "int", [(0, FAIL), (0, leaf(0))]), test((), "bool", [(True, FAIL), (True, FAIL)]),
        test((), "con", [("A", FAIL), ("B", FAIL), ("A", FAIL)]), test((), "int", [(0, None)]), test((), "int", [(0, 1)]), ("leaf", 0, None),
        test((), "int", [(0,)]), test((), "int", [[0, FAIL]]), test((), "int", [(0, FAIL, FAIL)]), test((), "int", [(0, FAIL)], 0),
        test((), "int", [(0, FAIL)], ("leaf", True)), ("test", (), "int", [(0, FAIL)], None), ("test", (), "int", ((0, FAIL),)),
        test((), "int", [(k, FAIL) for k in range(41)]), test((), "int", [(0, ("leaf", -1))]), ("test", (), "int", None, FAIL),
        ("test", (), "int", ((0, FAIL),), None, None), test((), "int", [(0, FAIL)], False),
    ]

    def test_which_are(self):
        for tree in self.GOOD:
            self.assertIs(is_tree(tree), True, tree)
            self.assertIs(is_tree(test((), "int", [(0, tree)], tree)), True)
        for tree in self.BAD + bad_for(lambda value: False):
            self.assertIs(is_tree(tree), False, tree)
            if tree is not None:
                self.assertIs(is_tree(test((), "int", [(0, FAIL)], tree)), False, tree)

    def test_limits(self):
        for many in (39, 40, 41):
            self.assertIs(is_tree(chain(many)), many <= 40)
        row = test((), "int", [(k, FAIL) for k in range(39)])
        most = test((), "int", [(k, test((), "int", [(j, row) for j in range(33)])) for k in range(3)])
        self.assertEqual(count(most), 4 + 99 * 40)
        self.assertIs(is_tree(most), True)
        short = test((), "int", [(k, FAIL) for k in range(35)])
        for extra, fits in ((34, True), (35, True), (36, False)):
            more = most[:4] + (test((), "int", [(k, FAIL) for k in range(extra)]),)
            self.assertEqual(count(more), 3965 + extra)
            self.assertIs(is_tree(more), fits)
        self.assertIs(is_tree(short), True)
        alike = FAIL
        for _ in range(39):
            alike = test((), "bool", [(True, alike), (False, alike)])
        self.assertIs(is_tree(alike), False)

    def test_decide(self):
        tree = test((1, "Some"), "int", [(1, leaf(0)), (2, FAIL)], test((0,), "bool", [(True, leaf(7))]))
        rows = [("(_, Some 1)", 0), ("(_, Some 2)", None), ("(true, Some 3)", 7)]
        for text, told in rows:
            self.assertEqual(decide(tree, value_of(text)), told)
        for text in ("(false, Some 3)", "(_, Some 3)", "(1, Some 3)", "(_, None)", "(_, Some true)", "(_, Some _)", "(_, 1)", "1", "true", "Nil",
                     "Some (1, Some 1)", "(_, Other 1)", "()"):
            with self.assertRaises(NotThere):
                decide(tree, value_of(text))
        self.assertEqual(decide(leaf(3), ("cell", 0)), 3)
        self.assertIsNone(decide(FAIL, ("unit",)))
        three = test((2,), "int", [(1, leaf(0))], leaf(1))
        with self.assertRaises(NotThere):
            decide(three, value_of("(1, 1)"))
        self.assertEqual(decide(three, value_of("(0, 0, 5)")), 1)
        for kind, key, text in (("con", "Nil", "Nil"), ("bool", True, "true"), ("int", 1, "1")):
            for other, value in (("con", "Nil"), ("bool", "true"), ("int", "1")):
                one = test((), kind, [(key, leaf(4))])
                if other == kind:
                    self.assertEqual(decide(one, value_of(value)), 4)
                else:
                    with self.assertRaises(NotThere):
                        decide(one, value_of(value))

    def test_errors(self):
        look_at_errors(self, decide, [("tree", leaf(0)), ("value", ("unit",))], [
            ("tree", InvalidTree, self.BAD), ("value", InvalidValue, bad_for(is_plain) + [ANY, ("int", True)])])
        keeps(self, decide, leaf(0), ("unit",))


def count(tree):
    if tree[0] != "test":
        return 1
    return 1 + sum(count(branch[1]) for branch in tree[3]) + (0 if tree[4] is None else count(tree[4]))


class TestPlainTrees(unittest.TestCase):
    def test_exact_forms(self):
        nil_or = lambda tree: test((), "con", [("Nil", leaf(0))], tree)
        rows = [
            ("_", leaf(0)), ("x | 1", leaf(0)), ("()", leaf(0)), ("(_, x)", leaf(0)), ("M.Only _", leaf(0)), ("1", test((), "int", [(1, leaf(0))], FAIL)),
            ("2 | 1 | 2", test((), "int", [(2, leaf(0)), (1, leaf(1))], FAIL)), ("1 | _ | 2", test((), "int", [(1, leaf(0)), (2, leaf(1))], leaf(1))),
            ("true", test((), "bool", [(False, FAIL), (True, leaf(0))])), ("true | false", test((), "bool", [(False, leaf(1)), (True, leaf(0))])),
            ("false | _", test((), "bool", [(False, leaf(0)), (True, leaf(1))])), ("Nil | _", nil_or(leaf(1))), ("Nil", nil_or(FAIL)),
            ("Nil | Cons _", test((), "con", [("Nil", leaf(0)), ("Cons", leaf(1))])), ("Cons _ | Nil", test((), "con", [("Cons", leaf(0)), ("Nil", leaf(1))])),
            ("M.B 1 | M.A | M.C _", test((), "con", [("M.B", test(("M.B",), "int", [(1, leaf(0))], FAIL)), ("M.A", leaf(1)), ("M.C", leaf(2))])),
            ("M.B 1 | M.A", test((), "con", [("M.B", test(("M.B",), "int", [(1, leaf(0))], FAIL)), ("M.A", leaf(1))], FAIL)),
            ("M.Only 1 | M.Only 2", test(("M.Only",), "int", [(1, leaf(0)), (2, leaf(1))], FAIL)),
            ("DivZero", test((), "con", [("DivZero", leaf(0))], FAIL)),
            ("DivZero | Bounds | NoMore | NoMatch | M.F | M.E _",
             test((), "con", [("DivZero", leaf(0)), ("Bounds", leaf(1)), ("NoMore", leaf(2)), ("NoMatch", leaf(3)), ("M.F", leaf(4)), ("M.E", leaf(5))])),
            ("(1, 2) | (_, 3)", test((0,), "int", [(1, test((1,), "int", [(2, leaf(0)), (3, leaf(1))], FAIL))], test((1,), "int", [(3, leaf(1))], FAIL))),
            ("(_, true) | (1, _)", test((1,), "bool", [(False, test((0,), "int", [(1, leaf(1))], FAIL)), (True, leaf(0))])),
            ("Cons (1, _) | Cons (_, Nil) | Nil",
             test((), "con", [("Cons", test(("Cons", 0), "int", [(1, leaf(0))], test(("Cons", 1), "con", [("Nil", leaf(1))], FAIL))), ("Nil", leaf(2))])),
            ("((1, _), _) | ((_, 2), _)", test((0, 0), "int", [(1, leaf(0))], test((0, 1), "int", [(2, leaf(1))], FAIL))),
            ("(_, M.A) | (M.A, _)", test((1,), "con", [("M.A", leaf(0))], test((0,), "con", [("M.A", leaf(1))], FAIL))),
            ("(M.A, 1) | (M.B _, 2) | (M.A, 3)",
             test((0,), "con", [("M.A", test((1,), "int", [(1, leaf(0)), (3, leaf(2))], FAIL)), ("M.B", test((1,), "int", [(2, leaf(1))], FAIL))], FAIL)),
        ]
        for text, tree in rows:
            self.assertEqual(plain_tree(WHOLE, patterns_of(text)), tree, text)
            self.assertIs(is_decision(WHOLE, patterns_of(text), tree), True)

    def test_keys_that_are_out(self):
        """Patterns that can't match any more give no branches."""
        tree = plain_tree(WHOLE, patterns_of("(1, 5) | (2, 6) | (_, 7)"))
        self.assertEqual(tree[3][0][1], test((1,), "int", [(5, leaf(0)), (7, leaf(2))], FAIL))
        self.assertEqual(tree[3][1][1], test((1,), "int", [(6, leaf(1)), (7, leaf(2))], FAIL))
        self.assertEqual(tree[4], test((1,), "int", [(7, leaf(2))], FAIL))

    def test_against_all_values(self):
        wrong = right = 0
        for seed in range(500):
            rand = random.Random(seed)
            patterns = random_patterns(rand, random_sort(rand, 4), rand.randint(1, 5))
            values = values_for(patterns)
            if values is None:
                continue
            firsts = [first_rule(patterns, value) for value in values]
            tree = plain_tree(WHOLE, patterns)
            self.assertEqual([decide(tree, value) for value in values], firsts)
            for other in [tree, decided(WHOLE, patterns)] + [spoiled(rand, tree) for _ in range(4)]:
                if is_tree(other):
                    told = decides(other, values, firsts)
                    self.assertIs(is_decision(WHOLE, patterns, other), told, (patterns, other))
                    right, wrong = right + told, wrong + (not told)
        self.assertGreater(min(right, wrong), 200)

    def test_the_limit_itself(self):
        tree = plain_tree(WHOLE, long_way(36))
        self.assertIs(is_tree(tree), True)
        self.assertIs(is_decision(WHOLE, long_way(36), tree), True)


def decides(tree, values, firsts):
    for value, first in zip(values, firsts):
        try:
            if decide(tree, value) != first:
                return False
        except NotThere:
            return False
    return True


def spoiled(rand, tree):
    """A tree with one thing changed somewhere, perhaps still a right one."""
    if tree[0] != "test" or rand.random() < 0.25:
        return rand.choice([FAIL, leaf(0), leaf(1), tree])
    _, path, kind, branches, default = tree
    what = rand.random()
    if what < 0.1:
        return test(path, kind, branches)
    if what < 0.2 and len(branches) > 1:
        return test(path, kind, branches[:-1], branches[-1][1])
    if what < 0.3 and len(branches) > 1:
        return test(path, kind, branches[1:], default)
    if what < 0.4 and path:
        return test(path[:-1], kind, branches, default)
    if what < 0.5:
        return branches[0][1]
    if what < 0.6:
        return test(path, kind, branches[::-1], default or FAIL)
    at = rand.randrange(len(branches))
    key, inner = branches[at]
    return test(path, kind, branches[:at] + ((key, spoiled(rand, inner)),) + branches[at + 1:],
                default and (spoiled(rand, default) if rand.random() < 0.5 else default))


class TestRight(unittest.TestCase):
    def test_rows(self):
        a, b, c = ("M.A", leaf(0)), ("M.B", leaf(1)), ("M.C", leaf(1))
        rows = [
            ("M.A | _", test((), "con", [a, b, c]), True), ("M.A | _", test((), "con", [a, b]), False), ("M.A | _", test((), "con", [a, b, c], FAIL), True),
            ("M.A | _", test((), "con", [a, b, c], leaf(77)), True), ("M.A | _", test((), "con", [a, b], leaf(1)), True),
            ("M.A | _", test((), "con", [a], leaf(1)), True), ("M.A | _", test((), "con", [b, c], leaf(0)), True), ("M.A | _", test((), "con", [b], leaf(1)), False),
            ("M.A | _", leaf(0), False), ("M.A | _", leaf(1), False), ("M.A | _", FAIL, False), ("_", leaf(0), True), ("_", leaf(1), False), ("_", FAIL, False),
            ("_ | _", leaf(1), False), ("M.A | _", test((), "con", [a, ("M.X", FAIL)], leaf(1)), True), ("M.A | _", test((), "con", [a, ("Nil", leaf(9))], leaf(1)), True),
            ("M.A | _", test((), "con", [a], test((), "con", [b, c])), True), ("M.A | _", test((), "con", [a], test((), "con", [b])), False),
            ("M.A | _", test((), "con", [a], test((), "con", [("M.A", FAIL), b, c])), True), ("M.A | _", test((), "int", [(1, leaf(0))], leaf(1)), False),
            ("M.A | _", test((0,), "con", [a], leaf(1)), False), ("M.A | _", test(("M.B",), "int", [(1, leaf(1))], leaf(1)), False),
            ("M.A | _", test((), "con", [a, ("M.B", test(("M.B",), "int", [(1, leaf(1))], leaf(1)))], leaf(1)), False),
            ("M.A | M.B 5 | _", test((), "con", [a, ("M.B", test(("M.B",), "int", [(5, leaf(1))], leaf(2)))], leaf(2)), True),
            ("M.A | M.B 5 | _", test((), "con", [a, c], test(("M.B",), "int", [(5, leaf(1))], leaf(2))), False),
            ("M.A | M.B 5 | _", test((), "con", [a, ("M.C", leaf(2))], test(("M.B",), "int", [(5, leaf(1))], leaf(2))), True),
            ("M.A | M.B 5 | _", test((), "con", [a, ("M.C", leaf(2))], test(("M.B",), "int", [(6, leaf(2))], leaf(2))), False),
            ("M.A | M.B 5 | _", test((), "con", [a, ("M.C", leaf(2))], test(("M.B",), "int", [(6, leaf(2))], test(("M.B",), "int", [(5, leaf(1))], leaf(2)))), True),
            ("1 | _", test((), "int", [(1, leaf(0))], leaf(1)), True), ("1 | _", test((), "int", [(1, leaf(0))]), False), ("1 | _", test((), "int", [(2, leaf(1))], leaf(1)), False),
            ("1 | _", test((), "int", [(2, leaf(1))], test((), "int", [(1, leaf(0)), (2, FAIL)], leaf(1))), True),
            ("1 | _", test((), "int", [(1, test((), "int", [(1, leaf(0))]))], leaf(1)), True), ("1 | _", test((), "int", [(1, test((), "int", [(2, FAIL)]))], leaf(1)), False),
            ("1 | _", test((), "int", [(1, test((), "int", [(2, FAIL)], leaf(0)))], leaf(1)), True), ("1", test((), "int", [(1, leaf(0))], FAIL), True),
            ("true | false", test((), "bool", [(True, leaf(0))], leaf(1)), True), ("true | false", test((), "bool", [(True, leaf(0))]), False),
            ("true | false", test((), "bool", [(True, leaf(0)), (False, leaf(1))], FAIL), True), ("true | _", test((), "bool", [(False, leaf(1)), (True, leaf(0))]), True),
            ("true | _", test((), "bool", [(False, leaf(1))], test((), "bool", [(True, leaf(0))])), True), ("() | _", leaf(0), True), ("M.Only 1 | _", test(("M.Only",), "int", [(1, leaf(0))], leaf(1)), True),
            ("M.Only 1 | _", test((), "con", [("M.Only", test(("M.Only",), "int", [(1, leaf(0))], leaf(1)))]), True), ("M.Only _ | _", test((), "con", [("M.Only", leaf(0))]), True),
            ("M.Only _ | _", test((), "con", [("M.A", leaf(9))], leaf(0)), True), ("M.Only _ | _", test((), "con", [("M.A", leaf(9))]), False),
            ("(1, _) | _", test((0,), "int", [(1, leaf(0))], leaf(1)), True), ("(1, _) | _", test((1,), "int", [(1, leaf(0))], leaf(1)), False),
            ("(1, _) | _", test((2,), "int", [(1, leaf(0))], leaf(1)), False), ("(1, _) | _", test((0,), "int", [(1, test((1,), "int", [(1, leaf(0))], leaf(0)))], leaf(1)), False),
            ("(1, ()) | _", test((1,), "con", [("Nil", leaf(0))], leaf(1)), False), ("x", test((), "int", [(1, leaf(0))], leaf(0)), False),
            ("DivZero | _", test((), "con", [("DivZero", leaf(0)), ("Bounds", leaf(1)), ("NoMore", leaf(1)), ("NoMatch", leaf(1)), ("M.E", leaf(1)), ("M.F", leaf(1))]), True),
            ("DivZero | _", test((), "con", [("DivZero", leaf(0)), ("Bounds", leaf(1)), ("NoMore", leaf(1)), ("NoMatch", leaf(1)), ("M.E", leaf(1))]), False),
        ]
        for text, tree, told in rows:
            self.assertIs(is_tree(tree), True, tree)
            self.assertIs(is_decision(WHOLE, patterns_of(text), tree), told, (text, tree))

    def test_values_of_all_kinds(self):
        for value in bad_for(lambda value: False) + TestTrees.BAD:
            self.assertIs(is_decision(WHOLE, [ANY], value), False, value)

    def test_errors(self):
        bad = NOT_PATTERNS + [patterns_of(text) for text in ("1 | true", "A", "Nil _", "(_, _) | Nil")]
        look_at_errors(self, is_decision, [("whole", WHOLE), ("patterns", [ANY]), ("value", leaf(0))], [
            ("whole", InvalidWhole, bad_for(lambda value: False)), ("patterns", InvalidPatterns, bad)])
        self.assertIs(is_decision(WHOLE, wide(1), leaf(0)), False)
        self.assertEqual(WHOLE, resolved(parse(TEXT)))


if __name__ == "__main__":
    unittest.main()
