"""Rows of straight parts: [214], [215]."""

import random
import unittest

from checking import ODD, bad_for, keeps, look_at_errors
from outside import Outside, random_outside
from straightmaking import Straight
from test_straights import NOT_SORTS

from changedsame.errors import InvalidAnswers, InvalidBits, InvalidPartition, InvalidSorts, InvalidStraight
from changedsame.infer import is_accepted
from changedsame.linears import atom_form, form_less, form_sum, form_times, is_form, number_form
from changedsame.parser import parse_expr
from changedsame.plainruns import run_outer
from changedsame.rows import is_partition, row
from changedsame.straights import is_straight

SORTS = [("x", "int"), ("r", "ref"), ("b", "bool"), ("s", "ref"), ("f", "fun"), ("t", "test"), ("u", "ref")]
X, ONE = atom_form(("name", "x")), number_form(1)


def number(n):
    return number_form(n)


def start(c):
    return atom_form(("start", c))


def left(n, c):
    return atom_form(("left", n, c))


def result(n):
    return atom_form(("result", n))


def given(n):
    return atom_form(("input", n))


def told(text, partition=(0, 1, 2), bits=(False,), answers=()):
    return row(parse_expr(text), SORTS, list(partition), list(bits), list(answers))


STARTS = (start(0), start(1), start(2))


class TestPartitions(unittest.TestCase):
    def test_any_value(self):
        for value in ([0, 0, 0], [0, 0, 1], [0, 1, 0], [0, 1, 1], [0, 1, 2], (0, 1, 2)):
            self.assertIs(is_partition(SORTS, value), True)
        for value in ODD + [[0, 0], [0, 0, 0, 0], [1, 0, 0], [0, 2, 1], [0, 0, 2], [0, 1, 3], [0, -1, 0], [0, True, 0], [False, 0, 0],
                            ["0", 0, 0], [0, None, 1]]:
            self.assertIs(is_partition(SORTS, value), False, value)
        self.assertIs(is_partition([], []), True)
        self.assertIs(is_partition([("r", "ref")], [0]), True)
        self.assertIs(is_partition([("r", "ref")], []), False)

    def test_errors(self):
        look_at_errors(self, is_partition, [("sorts", SORTS), ("value", None)], [("sorts", InvalidSorts, NOT_SORTS)])


class TestRows(unittest.TestCase):
    def test_ends(self):
        self.assertEqual(told("5"), [("end", number(5), STARTS)])
        self.assertEqual(told("()"), [("end", None, STARTS)])
        self.assertEqual(told("r"), [("end", ("open", 0), STARTS)])
        self.assertEqual(told("u", (0, 1, 0)), [("end", ("open", 0), STARTS[:2])])
        self.assertEqual(told("s", (0, 1, 0)), [("end", ("open", 1), STARTS[:2])])
        self.assertEqual(told("ref(x)"), [("end", ("new", X), STARTS)])
        self.assertEqual(told("let n = ref(1) in n := !n + x; n"), [("end", ("new", form_sum(X, ONE)), STARTS)])
        self.assertEqual(told("let n = r in n"), [("end", ("open", 0), STARTS)])
        self.assertEqual(row(("unit",), [], [], [], []), [("end", None, ())])

    def test_sums(self):
        self.assertEqual(told("x + x * 3 - (2 - x)"), [("end", form_sum(form_times(X, 5), number(-2)), STARTS)])
        self.assertEqual(told("~2 * (x + 1)"), [("end", form_sum(form_times(X, -2), number(-2)), STARTS)])
        self.assertEqual(told("(x + 1) * ~2"), told("~2 * (x + 1)"))
        self.assertEqual(told("65536 * (65536 * x)"), [("end", number(0), STARTS)])
        self.assertEqual(told("2 * 3"), [("end", number(6), STARTS)])
        self.assertEqual(told("2147483647 + 1"), [("end", number(-2147483648), STARTS)])

    def test_cells(self):
        self.assertEqual(told("r := 1"), [("end", None, (ONE,) + STARTS[1:])])
        self.assertEqual(told("r := !s; s := x"), [("end", None, (start(1), X, start(2)))])
        self.assertEqual(told("r := 1; s := 2; !u", (0, 0, 0)), [("end", number(2), (number(2),))])
        self.assertEqual(told("r := 1; s := 2; !u", (0, 1, 0)), [("end", ONE, (ONE, number(2)))])
        self.assertEqual(told("r := 1; s := 2; !u", (0, 1, 1)), [("end", number(2), (ONE, number(2)))])
        self.assertEqual(told("let n = ref(!r) in r := 4; n := !n + 1; !n"), [
            ("end", form_sum(start(0), ONE), (number(4),) + STARTS[1:])])

    def test_tells_and_asks(self):
        self.assertEqual(told("tell(x); tell(1 - x); ()"), [("tell", X), ("tell", form_less(ONE, X)), ("end", None, STARTS)])
        self.assertEqual(told("let a = ask() in r := a; ask() - a"), [
            ("ask", STARTS), ("ask", (given(0),) + STARTS[1:]), ("end", form_less(given(1), given(0)), (given(0),) + STARTS[1:])])

    def test_calls(self):
        behind = tuple(left(0, c) for c in range(3))
        self.assertEqual(told("r := 2; f (x + 1)"), [
            ("call", "f", form_sum(X, ONE), (number(2),) + STARTS[1:]), ("end", result(0), behind)])
        self.assertEqual(told("f (f 1) + !s", (0, 1, 1)), [
            ("call", "f", ONE, STARTS[:2]), ("call", "f", result(0), (left(0, 0), left(0, 1))),
            ("end", form_sum(result(1), left(1, 1)), (left(1, 0), left(1, 1)))])
        self.assertEqual(told("let n = ref(x) in f 1; !n"), [("call", "f", ONE, STARTS), ("end", X, behind)])
        self.assertEqual(told("if t x then f 2 else 3", answers=[True]), [
            ("test", "t", X, STARTS), ("call", "f", number(2), behind), ("end", result(1), tuple(left(1, c) for c in range(3)))])
        self.assertEqual(told("(f 1; if t x then 2 else 3)", answers=[False]), [
            ("call", "f", ONE, STARTS), ("test", "t", X, behind), ("end", number(3), tuple(left(1, c) for c in range(3)))])

    def test_bits_and_answers(self):
        self.assertEqual(told("if b then 1 else 2", bits=[True]), [("end", ONE, STARTS)])
        self.assertEqual(told("if b then 1 else 2", bits=[False]), [("end", number(2), STARTS)])
        text = "(if t 1 then tell(1) else tell(2)); (if t 1 then tell(3) else tell(4)); if t 1 then tell(5) else tell(6)"
        numbers = lambda answers: [point[1][0] for point in told(text, answers=answers) if point[0] == "tell"]
        self.assertEqual(numbers([]), [2, 4, 6])
        self.assertEqual(numbers([True]), [1, 4, 6])
        self.assertEqual(numbers([False, True]), [2, 3, 6])
        self.assertEqual(numbers([True, False, True]), [1, 4, 5])
        self.assertEqual(numbers([True, False, True] + [True] * 9), [1, 4, 5])

    def test_sequence_of_parts(self):
        self.assertEqual([point[0] for point in told("ask() + f (ask(); 1) - (tell(2); 3)")], ["ask", "ask", "call", "tell", "end"])
        self.assertEqual([point[0] for point in told("(tell(1); r) := (ask(); 2)")], ["tell", "ask", "end"])
        self.assertEqual([point[0] for point in told("let a = ask() in tell(a)")], ["ask", "tell", "end"])

    def test_names_that_a_let_hides(self):
        self.assertEqual(told("let x = 1 in x + 1"), [("end", number(2), STARTS)])
        self.assertEqual(told("(let x = 1 in tell(x)); x"), [("tell", ONE), ("end", X, STARTS)])
        self.assertEqual(told("let r = s in r := 1"), [("end", None, (start(0), ONE, start(2)))])

    def test_random_parts_in_programs(self):
        rand = random.Random(11)
        for seed in range(150):
            maker = Straight(seed)
            kind = rand.choice(["int", "unit", "ref"])
            part = maker.part(kind, 5)
            if not is_straight(part, maker.sorts):
                continue
            partition, bits, answers, numbers = random_outside(rand, maker.sorts, rand.randint(0, 12))
            points = keeps(self, row, part, maker.sorts, partition, bits, answers)
            self.assertEqual([point[0] for point in points].index("end"), len(points) - 1)
            for point in points:
                forms = list(point[-1]) if point[0] != "tell" else [point[1]]
                self.assertTrue(all(is_form(form) for form in forms))
            outside = Outside(maker.sorts, partition, bits, answers, numbers)
            program = outside.program(part, kind)
            self.assertTrue(is_accepted(program))
            self.assertEqual(run_outer(program, outside.inputs(), 900), (outside.told(points), ("done",)))

    def test_errors(self):
        part = parse_expr("if b then r else s")
        not_straight = [value for value in ODD + [parse_expr("x * x"), parse_expr("z"), parse_expr("fn y -> y")]
                        if not is_straight(value, SORTS)]
        bad_partition = bad_for(lambda value: False) + [[0, 2, 1], [0, 0], [0, True, 0]]
        bad_bits = ODD + [[True, True], [1], ["True"], [None]]
        bad_answers = bad_for(lambda value: isinstance(value, (list, tuple)) and not value) + [[True] * 13, [1], [True, 0], "True"]
        look_at_errors(self, row, [("part", part), ("sorts", SORTS), ("partition", [0, 1, 2]), ("bits", [True]), ("answers", [])], [
            ("sorts", InvalidSorts, NOT_SORTS)])
        look_at_errors(self, row, [("part", part), ("sorts", SORTS), ("partition", (0, 1, 2)), ("bits", (True,)), ("answers", ())], [
            ("part", InvalidStraight, not_straight), ("partition", InvalidPartition, bad_partition),
            ("bits", InvalidBits, bad_bits), ("answers", InvalidAnswers, bad_answers)])
        self.assertRaises(InvalidSorts, row, None, None, None, None, None)
        self.assertEqual(len(row(part, SORTS, [0, 1, 2], [True], [True] * 12)), 1)


if __name__ == "__main__":
    unittest.main()
