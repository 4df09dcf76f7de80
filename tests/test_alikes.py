"""Partitions, cases, and parts that are alike in all surroundings: [214], [222], [223], [225]."""

import random
import unittest

from checking import ODD, bad_for, error_of, keeps, look_at_errors
from outside import Outside, random_outside
from straightmaking import Straight
from test_straights import NOT_SORTS

from changedsame.alikes import are_alike_parts, first_difference
from changedsame.errors import InvalidMany, InvalidSorts, InvalidStraight, TooMany
from changedsame.parser import parse_expr
from changedsame.partitions import bit_rows, partitions
from changedsame.plainruns import run_outer
from changedsame.rows import is_partition, row
from changedsame.straights import is_straight

SORTS = [("x", "int"), ("y", "int"), ("r", "ref"), ("b", "bool"), ("s", "ref"), ("f", "fun"), ("t", "test"), ("g", "fun")]


def refs(many):
    return [(f"r{k}", "ref") for k in range(many)] + [("x", "int")]


class TestPartitions(unittest.TestCase):
    def test_as_many_as_the_numbers_of_bell(self):
        self.assertEqual([len(partitions(refs(many))) for many in range(5)], [1, 1, 2, 5, 15])
        for many in range(5):
            found = keeps(self, partitions, refs(many))
            self.assertEqual(found, sorted(found))
            self.assertEqual(len(set(map(tuple, found))), len(found))
            self.assertTrue(all(is_partition(refs(many), value) for value in found))
        self.assertEqual(partitions([]), [[]])
        self.assertEqual(partitions([("x", "int"), ("r", "ref"), ("s", "ref")]), [[0, 0], [0, 1]])

    def test_bits(self):
        self.assertEqual(bit_rows(0), [[]])
        self.assertEqual(bit_rows(1), [[False], [True]])
        for many in range(7):
            found = keeps(self, bit_rows, many)
            self.assertEqual((len(found), found), (2 ** many, sorted(found)))
            self.assertEqual(len(set(map(tuple, found))), 2 ** many)

    def test_told_lists_are_new(self):
        for call, value in ((partitions, refs(2)), (bit_rows, 2)):
            found = call(value)
            found[0].append(5)
            self.assertNotEqual(call(value), found)
            self.assertIsNot(call(value)[0], call(value)[1])

    def test_errors(self):
        look_at_errors(self, partitions, [("sorts", refs(2))], [("sorts", InvalidSorts, NOT_SORTS)])
        look_at_errors(self, bit_rows, [("many", 6)],
                       [("many", InvalidMany, bad_for(lambda v: type(v) is int and 0 <= v <= 6) + [7, -1, 10 ** 25])])


def pair(one, other):
    return parse_expr(one), parse_expr(other)


class TestAlike(unittest.TestCase):
    def alike(self, one, other):
        one, other = pair(one, other)
        told = are_alike_parts(one, other, SORTS)
        self.assertEqual(first_difference(one, other, SORTS) is None, told)
        self.assertEqual(are_alike_parts(other, one, SORTS), told)
        return told

    def test_alike_ones(self):
        for one, other in [
                ("x + x", "2 * x"), ("x + y", "y + x"), ("(x + y) * 3", "3 * x + y + 2 * y"), ("x - x", "0"), ("65536 * (x * 65536)", "0"),
                ("let a = x in a + a", "x + x"), ("let a = !r in let b = ask() in a + b", "let b = ask() in let a = !r in a + b"),
                ("r := 1; r := 2", "r := 2"), ("r := !r", "()"), ("let n = ref(1) in n := 2; !n", "2"), ("if b then x else x", "x"),
                ("if b then 1 else 2", "let a = 7 in if b then 1 else 2"), ("let a = !r in f a", "f (!r)"), ("ref(1)", "let n = ref(0) in n := 1; n"),
                ("tell(x); !r", "let a = !r in tell(x); a"), ("(if t x then 1 else 2) - 1", "if t x then 0 else 1"),
                ("let n = r in n := 1; s := 2", "r := 1; s := 2"), ("ref(1); ()", "()"), ("2147483647 + 1", "~2147483648"),
                ("let n = ref(5) in let a = f 1 in !n + a", "f 1 + 5"), ("ask(); ask()", "let a = ask() in ask()")]:
            self.assertTrue(self.alike(one, other), (one, other))

    def test_unlike_ones(self):
        for one, other in [
                ("x", "y"), ("x", "x + 1"), ("65535 * (x * 65536)", "0"), ("r := 1", "()"), ("r", "s"), ("r", "ref(!r)"), ("ref(1)", "ref(2)"),
                ("r := 1; s := 2", "s := 2; r := 1"), ("tell(1)", "tell(2)"), ("tell(1)", "()"), ("ask(); 1", "1"), ("f 1", "g 1"), ("f 1", "f 2"),
                ("f 1; 2", "2"), ("if t 1 then 0 else 0", "0"), ("if t 1 then 1 else 2", "if t 1 then 2 else 1"), ("if b then 1 else 2", "1"),
                ("let a = !r in let b = f 1 in a + b", "let b = f 1 in let a = !r in a + b"), ("f 1 + f 2", "let b = f 2 in f 1 + b"),
                ("ask() - ask()", "0"), ("let a = ask() in r := 1; a", "r := 1; ask()"), ("tell(1); ask()", "let a = ask() in tell(1); a"),
                ("f 1; !r", "let a = !r in f 1; a"), ("r := 1; f 1; r := !r", "f 1; r := 1; r := !r")]:
            self.assertFalse(self.alike(one, other), (one, other))

    def test_the_first_difference(self):
        def diff(one, other, sorts=SORTS):
            return keeps(self, first_difference, *pair(one, other), sorts)

        self.assertEqual(diff("r := 1; s := 2", "s := 2; r := 1"), ([0, 0], [False], [], 0))
        self.assertEqual(diff("r := 1; !s", "(if b then r := 1 else ()); !s"), ([0, 0], [False], [], 0))
        self.assertEqual(diff("r := !r + 1; s := !s - 1", "()"), ([0, 1], [False], [], 0))
        self.assertEqual(diff("if b then 1 else 2", "if b then 3 else 2"), ([0, 0], [True], [], 0))
        self.assertEqual(diff("if t 1 then 1 else 2", "if t 1 then 3 else 2"), ([0, 0], [False], [True], 1))
        self.assertEqual(diff("if t 1 then 1 else if t 2 then 2 else 3", "if t 1 then 1 else if t 2 then 4 else 3"),
                         ([0, 0], [False], [False, True], 2))
        self.assertEqual(diff("if t 1 then 1 else (if t 2 then 2 else 3)", "if t 1 then 5 else 3"), ([0, 0], [False], [False, False], 1))
        self.assertEqual(diff("tell(1); tell(2); 3", "tell(1); tell(4); 5"), ([0, 0], [False], [], 1))
        self.assertEqual(diff("tell(1); 3", "tell(1); tell(4); 3"), ([0, 0], [False], [], 1))
        self.assertEqual(diff("x", "5", [("x", "int")]), ([], [], [], 0))

    def test_cases_in_sequence(self):
        rand = random.Random(2)
        for seed in range(60):
            maker = Straight(seed)
            one, other = maker.part("int", 5), maker.part("int", 5)
            if not is_straight(one, maker.sorts) or not is_straight(other, maker.sorts):
                continue
            many = [str(part).count("('if', ('call'") for part in (one, other)]
            cases = [(p, b, a) for p in partitions(maker.sorts) for b in bit_rows(len([1 for _, s in maker.sorts if s == "bool"]))
                     for a in bit_rows(max(many))]
            self.assertEqual(cases, sorted(cases))
            if len(cases) > 1000:
                self.assertEqual(type(error_of(are_alike_parts, one, other, maker.sorts)), TooMany)
                continue
            unlike = [case for case in cases if row(one, maker.sorts, *case) != row(other, maker.sorts, *case)]
            told = first_difference(one, other, maker.sorts)
            self.assertEqual(are_alike_parts(one, other, maker.sorts), told is None)
            self.assertEqual(told is None, not unlike)
            if unlike:
                near, far = [row(part, maker.sorts, *unlike[0]) for part in (one, other)]
                self.assertEqual(told[:3], unlike[0])
                self.assertEqual(near[:told[3]], far[:told[3]])
                self.assertNotEqual(near[told[3]], far[told[3]])
                for listed in told[:3]:
                    listed.append(1)
                self.assertEqual(first_difference(one, other, maker.sorts)[:3], unlike[0])
        self.assertIsNotNone(rand)

    def test_alike_parts_run_alike(self):
        rand = random.Random(9)
        texts = [("x + x", "2 * x"), ("r := 1; r := 2; !s", "r := 2; !s"), ("f x + !r", "let a = f x in a + !r"),
                 ("let a = !r in let b = ask() in a + b", "let b = ask() in let a = !r in a + b"),
                 ("if t x then tell(1) else tell(2)", "let a = x in if t a then tell(1) else tell(2)")]
        for one, other in texts * 6:
            one, other = pair(one, other)
            partition, bits, answers, numbers = random_outside(rand, SORTS, 3)
            outside = Outside(SORTS, partition, bits, answers, numbers)
            kind = "unit" if one[0] == "if" else "int"
            inputs = outside.inputs(rand.randint(0, 2))
            self.assertEqual(run_outer(outside.program(one, kind), inputs, 900), run_outer(outside.program(other, kind), inputs, 900))


class TestErrors(unittest.TestCase):
    def test_errors(self):
        part = parse_expr("x + 1")
        not_straight = [value for value in ODD + [parse_expr("x * y"), parse_expr("z")] if not is_straight(value, SORTS)]
        other_sort = [("unit",), ("var", "r"), parse_expr("ref(1)"), parse_expr("tell(1)")]
        for call in (are_alike_parts, first_difference):
            good = [("one", part), ("other", part), ("sorts", SORTS)]
            look_at_errors(self, call, good, [("one", InvalidStraight, not_straight), ("other", InvalidStraight, not_straight + other_sort)])
            look_at_errors(self, call, good, [("sorts", InvalidSorts, NOT_SORTS)])
            self.assertRaises(InvalidSorts, call, None, None, None)
            self.assertRaises(InvalidStraight, call, None, part, SORTS)

    def test_too_many_cases(self):
        sorts = refs(4)[:4] + [("a", "bool"), ("b", "bool"), ("c", "bool"), ("t", "test")]
        test = lambda many: " + ".join(["(if t 1 then 1 else 2)"] * many)
        few, more = parse_expr(test(3)), parse_expr(test(4))
        self.assertTrue(are_alike_parts(few, few, sorts))
        for one, other in ((more, few), (few, more), (more, more)):
            for call in (are_alike_parts, first_difference):
                error = error_of(call, one, other, sorts)
                self.assertEqual((type(error), error.what, error.limit), (TooMany, "cases", 1000))
        self.assertIsInstance(error_of(are_alike_parts, more, ("unit",), sorts), InvalidStraight)
        self.assertTrue(are_alike_parts(more, more, sorts[:4] + sorts[7:]))


if __name__ == "__main__":
    unittest.main()
