"""Runs: [7], [53] to [59], and what [29] and [39] tell of runs."""

import random
import unittest

from checking import ODD, bad_for, error_of, keeps, look_at_errors
from naiveruns import NaiveRun
from typed import Typed

from changedsame.errors import InvalidInputs, InvalidProgram, InvalidTicks, NotAccepted
from changedsame.parser import parse
from changedsame.plainruns import PlainRun, run_outer, run_plain
from changedsame.trees import is_program

GREAT, LEAST = 2147483647, -2147483648


def told(text, inputs=(), ticks=100):
    """The trace and the end of a module with these declarations."""
    return run_plain(parse(f"module M = {text} end"), list(inputs), ticks)


def value_of(text):
    """The number that an expression tells, or what it raises."""
    trace, end = told(f"do tell({text})")
    return trace[-1][1] if end == ("done",) else end[1]


def truth_of(text):
    return value_of(f"if {text} then 1 else 0") == 1


class TestPrims(unittest.TestCase):
    def test_sums_are_wrapped(self):
        for text, number in [
                ("1 + 2", 3), ("2147483647 + 1", LEAST), ("~2147483648 + ~1", GREAT), ("~2147483648 - 1", GREAT),
                ("2147483647 - ~1", LEAST), ("0 - ~2147483648", LEAST), ("65536 * 65536", 0), ("2147483647 * 2", -2),
                ("~2147483648 * ~1", LEAST), ("46341 * 46341", -2147479015), ("~2147483648 * ~2147483648", 0)]:
            self.assertEqual(value_of(text), number, text)

    def test_quotients(self):
        for text, number in [
                ("7 / 2", 3), ("~7 / 2", -4), ("7 / ~2", -4), ("~7 / ~2", 3), ("7 mod 2", 1), ("~7 mod 2", 1),
                ("7 mod ~2", -1), ("~7 mod ~2", -1), ("~2147483648 / ~1", LEAST), ("~2147483648 mod ~1", 0), ("0 / 5", 0),
                ("5 / 0", "DivZero"), ("5 mod 0", "DivZero"), ("0 / 0", "DivZero"), ("6 mod ~3", 0), ("1 / ~2147483648", -1)]:
            self.assertEqual(value_of(text), number, text)

    def test_truths(self):
        for text, truth in [
                ("1 = 1", True), ("1 = 2", False), ("1 < 2", True), ("2 < 2", False), ("~1 < 0", True), ("2 <= 2", True),
                ("3 <= 2", False), ("not(true)", False), ("not(1 = 2)", True), ("let r = ref(1) in same(r, r)", True),
                ("same(ref(1), ref(1))", False), ("let r = ref(1) in let s = r in same(s, r)", True)]:
            self.assertEqual(truth_of(text), truth, text)

    def test_cells(self):
        for text, number in [
                ("!(ref(3))", 3), ("let r = ref(3) in r := 4; !r", 4), ("let r = ref(3) in let s = r in r := 4; !s", 4),
                ("size(array(0, 1))", 0), ("size(array(64, true))", 64), ("size(array(65, 1))", "Bounds"),
                ("size(array(~1, 1))", "Bounds"), ("at(array(3, 7), 0)", 7), ("at(array(3, 7), 2)", 7),
                ("at(array(3, 7), 3)", "Bounds"), ("at(array(3, 7), ~1)", "Bounds"), ("at(array(0, 7), 0)", "Bounds"),
                ("let a = array(3, 7) in place(a, 1, 9); at(a, 0) * 100 + at(a, 1) * 10 + at(a, 2)", 797),
                ("let a = array(64, 7) in place(a, 63, 8); at(a, 63)", 8),
                ("let a = array(3, 7) in place(a, 3, 9); 0", "Bounds"),
                ("let a = array(3, 7) in place(a, ~1, 9); 0", "Bounds"),
                ("let a = array(2, ref(1)) in at(a, 0) := 5; !(at(a, 1))", 5)]:
            self.assertEqual(value_of(text), number, text)

    def test_units(self):
        self.assertEqual(told("do match tell(1) with () -> tell(2) end do match ref(1) := 2 with () -> tell(3) end "
                              "do match place(array(1, 1), 0, 2) with () -> tell(4) end"),
                         ([("tell", 1), ("tell", 2), ("tell", 3), ("tell", 4)], ("done",)))

    def test_ask(self):
        text = "do tell(ask() - ask()) do tell(ask())"
        self.assertEqual(told(text, [5, 3, -2]), (
            [("ask", 5), ("ask", 3), ("tell", 2), ("ask", -2), ("tell", -2)], ("done",)))
        self.assertEqual(told(text, [5, 3]), (
            [("ask", 5), ("ask", 3), ("tell", 2), ("raise", "NoMore")], ("raised", "NoMore")))
        self.assertEqual(told(text, []), ([("raise", "NoMore")], ("raised", "NoMore")))
        self.assertEqual(told("do tell(1)", [5, 3]), ([("tell", 1)], ("done",)))
        self.assertEqual(told("do ask()", [LEAST, GREAT])[0], [("ask", LEAST)])


class TestForms(unittest.TestCase):
    def test_parts_go_from_left_to_right(self):
        say = "rec s x = tell(x); x and t x = tell(x); true and u x = tell(x); fn y -> tell(y * 10); y "
        numbers = lambda text: [event[1] for event in told(say + text)[0] if event[0] == "tell"]
        self.assertEqual(numbers("do (s 1, s 2, s 3, s 4)"), [1, 2, 3, 4])
        self.assertEqual(numbers("do s 1 + s 2 * s 3"), [1, 2, 3])
        self.assertEqual(numbers("do u 1 (s 2)"), [1, 2, 20])
        self.assertEqual(numbers("do place(array(s 1, s 2), s 0, s 4)"), [1, 2, 0, 4])
        self.assertEqual(numbers("do (s 1; s 2; s 3)"), [1, 2, 3])
        self.assertEqual(numbers("do let a = s 1 in s 2 + a"), [1, 2])
        self.assertEqual(numbers("do if t 1 then s 2 else s 3"), [1, 2])
        self.assertEqual(numbers("do if not(t 1) then s 2 else s 3"), [1, 3])
        self.assertEqual(numbers("do Some (s 1, s 2)"), [1, 2])
        self.assertEqual(numbers("do match s 1 with 2 -> s 2 | 1 -> s 3 | _ -> s 4 end"), [1, 3])
        self.assertEqual(numbers("do (ref(s 1)) := s 2"), [1, 2])
        self.assertEqual(numbers("exception E of int do try raise (E (s 1)) with E x -> s (x + 1) end"), [1, 2])

    def test_calls(self):
        self.assertEqual(told("do (fn x -> tell(x)) 4"), ([("call", 0), ("tell", 4)], ("done",)))
        self.assertEqual(told("let f = fn x -> fn y -> x - y do tell(f 5 3)"),
                         ([("call", 0), ("call", 1), ("tell", 2)], ("done",)))
        self.assertEqual(told("rec f x = if x = 0 then 0 else g (x - 1) and g x = f x do tell(f 1)"),
                         ([("call", 0), ("call", 1), ("call", 0), ("tell", 0)], ("done",)))

    def test_captures(self):
        self.assertEqual(value_of("let x = 1 in let f = fn y -> x + y in let x = 10 in f x"), 11)
        self.assertEqual(value_of("let x = 1 in let f = fn x -> x in f 2"), 2)
        self.assertEqual(value_of("let x = 3 in rec f y = if y = 0 then x else f (y - 1) in let x = 9 in f 5"), 3)
        self.assertEqual(value_of("rec f f = f + 1 in f 2"), 3)
        self.assertEqual(value_of("rec f g = g + 1 and g x = f x in g 2"), 3)
        self.assertEqual(value_of("rec f x = if x = 0 then 0 else 1 + g (x - 1) and g x = if x = 0 then 0 else f (x - 1) in f 5"), 3)
        self.assertEqual(value_of("let r = ref(0) in let f = fn x -> r := !r + x in f 1; f 2; !r"), 3)

    def test_globals_are_read_when_needed(self):
        self.assertEqual(told("let n = 5 let n2 = n + 1 let f = fn x -> n2 + x do tell(f 1)"),
                         ([("call", 0), ("tell", 7)], ("done",)))
        program = parse("module M = let r = ref(1) let f = fn x -> r := x end module N = do M.f 7 let r = !M.r do tell(r) end")
        self.assertEqual(run_plain(program, [], 9), ([("call", 0), ("tell", 7)], ("done",)))

    def test_locals_hide_globals(self):
        self.assertEqual(told("let x = 1 do let x = 2 in tell(x) do tell(x) do match 3 with x -> tell(x) end"),
                         ([("tell", 2), ("tell", 1), ("tell", 3)], ("done",)))

    def test_matches(self):
        self.assertEqual(value_of("match (1, Some 2) with (a, None) -> a | (a, Some b) -> a * 10 + b end"), 12)
        self.assertEqual(value_of("match 1 with 2 -> 3 end"), "NoMatch")
        self.assertEqual(value_of("match Cons (1, Cons (2, Nil)) with Cons (_, Cons (x, _)) -> x | _ -> 0 end"), 2)
        self.assertEqual(value_of("match ref(5) with x -> !x end"), 5)
        self.assertEqual(value_of("match true with false -> 1 | true -> 2 end"), 2)

    def test_raising(self):
        self.assertEqual(told("do raise Bounds"), ([("raise", "Bounds")], ("raised", "Bounds")))
        self.assertEqual(told("exception E of int do raise (E 1); tell(1) do tell(2)"), ([("raise", "M.E")], ("raised", "M.E")))
        self.assertEqual(told("do try tell(1); raise Bounds; tell(2) with Bounds -> tell(3) end; tell(4)"),
                         ([("tell", 1), ("raise", "Bounds"), ("tell", 3), ("tell", 4)], ("done",)))
        self.assertEqual(told("do try 1 / 0 with Bounds -> 2 end"),
                         ([("raise", "DivZero"), ("raise", "DivZero")], ("raised", "DivZero")))
        self.assertEqual(told("do try try 1 / 0 with Bounds -> 2 | NoMore -> 3 end with DivZero -> 3 end"),
                         ([("raise", "DivZero"), ("raise", "DivZero")], ("done",)))
        self.assertEqual(told("do try (try 1 / 0 with DivZero -> raise Bounds end) with Bounds -> 3 end"),
                         ([("raise", "DivZero"), ("raise", "Bounds")], ("done",)))
        self.assertEqual(told("do (try 1 with DivZero -> 2 end) / 0"), ([("raise", "DivZero")], ("raised", "DivZero")))
        self.assertEqual(told("do try match 1 with 2 -> 3 end with NoMatch -> tell(1); 0 end")[1], ("done",))
        self.assertEqual(told("exception E of int do try raise (E 5) with E 4 -> tell(4) | E x -> tell(x) end"),
                         ([("raise", "M.E"), ("tell", 5)], ("done",)))

    def test_what_was_done_stays(self):
        self.assertEqual(told("let r = ref(0) do try r := 1; tell(ask()); raise Bounds with _ -> () end do tell(!r)", [4])[0],
                         [("ask", 4), ("tell", 4), ("raise", "Bounds"), ("tell", 1)])

    def test_raising_leaves_waiting_calls(self):
        self.assertEqual(told("rec f x = if x = 0 then raise Bounds else 1 + f (x - 1) do try tell(f 2) with _ -> tell(9) end")[0],
                         [("call", 0), ("call", 0), ("call", 0), ("raise", "Bounds"), ("tell", 9)])

    def test_deep_calls_and_long_lists(self):
        text = ("rec up n = if n = 0 then Nil else Cons (n, up (n - 1)) "
                "rec sum xs = match xs with Nil -> 0 | Cons (x, r) -> x + sum r end do tell(sum (up 2000))")
        trace, end = told(text, [], 5000)
        self.assertEqual((trace[-1], len(trace), end), (("tell", 2001000), 4003, ("done",)))
        self.assertEqual(told("rec f x = f x do f 1", [], 5000), ([("call", 0)] * 5000, ("spent",)))
        self.assertEqual(told("rec f x = 1 + f x do f 1", [], 5000), ([("call", 0)] * 5000, ("spent",)))


class TestRuns(unittest.TestCase):
    def test_ticks(self):
        text = "let f = fn x -> tell(x) do f 1 do f 2 do tell(3)"
        whole = [("call", 0), ("tell", 1), ("call", 0), ("tell", 2), ("tell", 3)]
        self.assertEqual(told(text, [], 0), ([], ("spent",)))
        self.assertEqual(told(text, [], 1), (whole[:2], ("spent",)))
        self.assertEqual(told(text, [], 2), (whole, ("done",)))
        self.assertEqual(told(text, [], 5000), (whole, ("done",)))
        self.assertEqual(told("do tell(1)", [], 0), ([("tell", 1)], ("done",)))
        self.assertEqual(told("", [], 0), ([], ("done",)))

    def test_as_the_naive_run(self):
        for seed in range(150):
            program = Typed(seed).program(5)
            if not is_program(program):
                continue
            inputs = [3, 0, -1, 2, 7, 2147483647][:seed % 7]
            for ticks in (0, 1, 2, 5, 60):
                naive = NaiveRun(program, inputs, ticks)
                self.assertEqual(run_plain(program, inputs, ticks), (naive.trace, naive.end), seed)
                outer = [event for event in naive.trace if event[0] in ("tell", "ask")]
                self.assertEqual(run_outer(program, inputs, ticks), (outer, naive.end))

    def test_pieces(self):
        rand = random.Random(5)
        for seed in range(80):
            program = Typed(1000 + seed).program(5)
            if not is_program(program):
                continue
            run = PlainRun(program, [1, 2, 3])
            self.assertEqual((run.ticks, run.trace(), run.end(), run.cells()), (0, [], None, 0))
            made = 0
            for _ in range(12):
                more = rand.choice([0, 0, 1, 2, 3])
                made += more
                naive = NaiveRun(program, [1, 2, 3], made)
                end = None if naive.end == ("spent",) else naive.end
                self.assertEqual(run.go(more), end)
                self.assertEqual((run.trace(), run.end(), run.cells()), (naive.trace, end, naive.cells))
                self.assertEqual(run.ticks, len([event for event in naive.trace if event[0] == "call"]))

    def test_cells_are_counted(self):
        run = PlainRun(parse("module M = let a = fn x -> fn y -> (ref(1), array(3, 1)) rec f x = x and g x = x "
                             "do rec h x = x and i x = x in a 1 2 do array(99, 1) end"), [])
        self.assertEqual((run.go(0), run.cells()), (None, 5))
        self.assertEqual((run.go(1), run.cells()), (None, 6))
        self.assertEqual((run.go(1), run.cells()), (("raised", "Bounds"), 8))
        self.assertEqual((run.go(5000), run.cells(), run.ticks), (("raised", "Bounds"), 8, 2))

    def test_lists_are_copied_and_runs_are_apart(self):
        program = parse("module M = do tell(ask()) let f = fn x -> tell(ask()) do f 1 end")
        inputs = [1, 2]
        run, other = PlainRun(program, inputs), PlainRun(program=program, inputs=(7,))
        inputs.clear()
        run.go(ticks=0)
        run.trace().clear()
        run.go(1)
        self.assertEqual(run.trace(), [("ask", 1), ("tell", 1), ("call", 0), ("ask", 2), ("tell", 2)])
        self.assertEqual((other.ticks, other.trace()), (0, []))
        self.assertEqual(other.go(3), ("raised", "NoMore"))
        outcome = keeps(self, run_plain, program, [1, 2], 5)
        outcome[0].clear()
        self.assertEqual(run_plain(program, [1, 2], 5)[0], run.trace())
        self.assertIsNot(run_plain(program, [1, 2], 5)[0], run_plain(program, [1, 2], 5)[0])

    def test_outer_outcomes(self):
        program = parse("module M = do try tell(1); raise Bounds with _ -> tell(ask()) end do (fn x -> 1 / x) 0 end")
        self.assertEqual(run_plain(program, [4], 1), (
            [("tell", 1), ("raise", "Bounds"), ("ask", 4), ("tell", 4), ("call", 0), ("raise", "DivZero")],
            ("raised", "DivZero")))
        self.assertEqual(run_outer(program, [4], 1), ([("tell", 1), ("ask", 4), ("tell", 4)], ("raised", "DivZero")))
        self.assertEqual(run_outer(program, [4], 0), ([("tell", 1), ("ask", 4), ("tell", 4)], ("spent",)))

    def test_names_changed(self):
        one = parse("module A = exception E type t = C of int | D let x = 1 let f = fn y -> match y with C z -> z + x | _ -> raise E end end "
                    "module B = do tell(A.f (A.C 4)) do A.f A.D end")
        other = parse("module K = exception Oh type s = P of int | Q let n = 1 let g = fn u -> match u with P v -> v + n | _ -> raise Oh end end "
                      "module B = do tell(K.g (K.P 4)) do K.g K.Q end")
        self.assertEqual(run_plain(one, [], 9), ([("call", 0), ("tell", 5), ("call", 0), ("raise", "A.E")], ("raised", "A.E")))
        self.assertEqual(run_plain(other, [], 9), ([("call", 0), ("tell", 5), ("call", 0), ("raise", "K.Oh")], ("raised", "K.Oh")))

    def test_errors(self):
        program = parse("module M = do tell(1) end")
        bad_programs = bad_for(is_program)
        bad_inputs = bad_for(lambda value: isinstance(value, (list, tuple)) and (not value or value == [1])) + [
            [2 ** 31], [-2 ** 31 - 1], [1] * 201, [True], ["1"], [1, None]]
        bad_ticks = bad_for(lambda value: type(value) is int and 0 <= value <= 5000) + [5001, -1]
        parts = [("program", InvalidProgram, bad_programs), ("inputs", InvalidInputs, bad_inputs),
                 ("ticks", InvalidTicks, bad_ticks)]
        good = [("program", program), ("inputs", [1] * 200), ("ticks", 5000)]
        look_at_errors(self, run_plain, good, parts)
        look_at_errors(self, run_outer, good, parts)
        look_at_errors(self, PlainRun, good[:2], parts[:2])
        run = PlainRun(program, [])
        look_at_errors(self, run.go, [("ticks", 0)], parts[2:])

    def test_not_accepted(self):
        for text in ("do 1 + true", "do x", "let x = 1 let x = 2"):
            program = parse(f"module M = {text} end")
            for call in (run_plain, run_outer):
                self.assertIsInstance(error_of(call, program, [], 1), NotAccepted)
                self.assertIsInstance(error_of(call, program, [True], 1), InvalidInputs)
                self.assertIsInstance(error_of(call, program, [], -1), InvalidTicks)
            self.assertIsInstance(error_of(PlainRun, program, []), NotAccepted)
            self.assertIsInstance(error_of(PlainRun, program, 1), InvalidInputs)

    def test_a_run_that_was_refused_ticks_goes_on(self):
        run = PlainRun(parse("module M = let f = fn x -> tell(x) do f 1 do f 2 end"), [])
        run.go(1)
        for ticks in ODD:
            if type(ticks) is not int or not 0 <= ticks <= 5000:
                self.assertIsInstance(error_of(run.go, ticks), InvalidTicks)
        self.assertEqual((run.ticks, run.go(1)), (1, ("done",)))


if __name__ == "__main__":
    unittest.main()
