"""Changes of the rules of a match or a try: [261] to [264], [266]."""

import random
import unittest

import brute
from brute import TEXT, random_patterns, random_sort, values_for
from checking import ODD, bad_for, error_of, keeps, look_at_errors
from running import parting_run
from test_papers import Apart
from typed import Typed

from changedsame.alikes import are_alike_parts
from changedsame.bindings import binder_of, type_at
from changedsame.cases import case_result, is_case_change, like_choices, told_case, went
from changedsame.checker import is_paper
from changedsame.errors import InvalidChange, InvalidPath, InvalidPatterns, InvalidPlace, InvalidProgram, InvalidRule, InvalidWhole, NotAccepted, TooMany
from changedsame.infer import is_accepted
from changedsame.matches import first_rule, is_plain
from changedsame.names import are_alpha, free_names
from changedsame.parser import parse, parse_expr
from changedsame.places import expr_at, places
from changedsame.plainruns import run_outer
from changedsame.printer import expr_text, program_text
from changedsame.sights import sights
from changedsame.spots import below
from changedsame.straights import sort_of
from changedsame.surroundings import is_parting
from changedsame.trees import is_program
from changedsame.wholes import resolved


def with_rules(rules, word="match", more="", subject="x"):
    """A program whose place (0, .., 0) has such a rules expression; the type t of A | B of int | C of int * bool is there."""
    return parse(f"module M = type t = A | B of int | C of int * bool {more} do fn x -> {word} {subject} with {rules} end end")


def place_in(program):
    return (0, len(program[0][3]) - 1, 0)


class TestForm(unittest.TestCase):
    def test_what_is_one(self):
        for change in [("swap rules", (), 0), ("drop rule", (0, 1, 2), 99), ("merge rules", (5,), 10 ** 20), ("split rule", (0,), 1, (), "A"), ("split rule", (0,), 1, (0, "M.C", 1, "D"), "Q.A")]:
            self.assertIs(keeps(self, is_case_change, change), True, change)
        for value in ODD + [("swap rules", [0], 0), ("swap rules", (0,), True), ("swap rules", (0,), -1), ("swap rules", (0,)), ("swap rules", (0,), 0, 0), ("swap rules", (True,), 0), ("swap", (0,), 0),
                            ["swap rules", (0,), 0], ("split rule", (0,), 1, (), "a"), ("split rule", (0,), 1, [], "A"), ("split rule", (0,), 1, ("a",), "A"), ("split rule", (0,), 1, (True,), "A"),
                            ("split rule", (0,), 1, (), None), ("split rule", (0,), 1, ()), ("split rule", (0,), 1), ("split rule", (0,), 1, (), "A", 1), ("drop rule", None, 0), ("merge rules", (0,), None)]:
            self.assertIs(is_case_change(value), False, value)


class TestResult(unittest.TestCase):
    def look(self, rules, change, wanted, more=""):
        program = with_rules(rules, more=more)
        told = keeps(self, case_result, program, (change[0], place_in(program)) + change[1:])
        self.assertEqual(program_text(told), program_text(with_rules(wanted, more=more)))

    def test_each_kind(self):
        for rules, change, wanted in [
                ("A -> 1 | B n -> n | C (a, b) -> a", ("swap rules", 0), "B n -> n | A -> 1 | C (a, b) -> a"), ("A -> 1 | B n -> n | C (a, b) -> a", ("swap rules", 1), "A -> 1 | C (a, b) -> a | B n -> n"),
                ("A -> 1 | B n -> n", ("drop rule", 0), "B n -> n"), ("A -> 1 | B n -> n", ("drop rule", 1), "A -> 1"),
                ("_ -> 1", ("split rule", 0, (), "A"), "A -> 1 | _ -> 1"), ("_ -> 1", ("split rule", 0, (), "B"), "B _ -> 1 | _ -> 1"), ("A -> 1 | (_) -> 2", ("split rule", 1, (), "C"), "A -> 1 | C _ -> 2 | _ -> 2"),
                ("A -> 1 | A -> 2", ("merge rules", 0), "A -> 1"), ("A -> 1 | B _ -> 2 | _ -> 3", ("merge rules", 1), "A -> 1 | _ -> 2"), ("B 1 -> 1 | B 2 -> 2", ("merge rules", 0), "B _ -> 1"),
                ("C (1, true) -> 1 | C (1, false) -> 2", ("merge rules", 0), "C (1, _) -> 1"), ("C (n, true) -> 1 | C (m, true) -> 2", ("merge rules", 0), "C (n, true) -> 1"),
                ("C (n, _) -> 1 | C (_, k) -> 2", ("merge rules", 0), "C (_, _) -> 1"), ("C (1, b) -> 1 | C (2, c) -> 2", ("merge rules", 0), "C (_, b) -> 1"),
                ("C (_, _) -> 1 | C _ -> 2", ("merge rules", 0), "C _ -> 1"), ("B n -> 1 | B n -> 2", ("merge rules", 0), "B n -> 1"), ("C (n, b) -> 1 | C (n, b) -> 2", ("merge rules", 0), "C (n, b) -> 1"),
                ("y -> 1 | z -> 2", ("merge rules", 0), "y -> 1"), ("y -> 1 | _ -> 2", ("merge rules", 0), "_ -> 1"), ("C (_, true) -> 1 | C (_, true) -> 2", ("merge rules", 0), "C (_, true) -> 1")]:
            self.look(rules, change, wanted)

    def test_paths(self):
        more = "type u = U of t * option(t)"
        for rules, path, con, wanted in [
                ("U (_, _) -> 1", ("U", 0), "A", "U (A, _) -> 1 | U (_, _) -> 1"), ("U (_, _) -> 1", ("U", 1), "Some", "U (_, Some _) -> 1 | U (_, _) -> 1"),
                ("U (A, Some _) -> 1", ("U", 1, "Some"), "C", "U (A, Some (C _)) -> 1 | U (A, Some _) -> 1"), ("U (A, _) -> 1 | U _ -> 2", ("U",), None, None)]:
            program = with_rules(rules, more=more)
            if con is None:
                for bad in [("U",), (), ("U", 0), ("U", 2), ("V", 1), ("U", 1, "Some"), (0,), ("U", 0, 0), ("M.U", 1), ("U", 1, 0)]:
                    error = error_of(case_result, program, ("split rule", place_in(program), 0, bad, "A"))
                    self.assertEqual((type(error), error.value), (InvalidPath, bad), bad)
                continue
            self.look(rules, ("split rule", 0, path, con), wanted, more=more)
        program = parse("module A = type t = C of int | D end module B = do fn x -> match x with (A.C _, _) -> 1 | _ -> 2 end end")
        self.assertEqual(expr_text(expr_at(case_result(program, ("split rule", (1, 0, 0), 0, (1,), "A.C")), (1, 0, 0))), "match x with (A.C _, A.C _) -> 1 | (A.C _, _) -> 1 | _ -> 2 end")
        self.assertIs(type(error_of(case_result, program, ("split rule", (1, 0, 0), 0, (0, "C"), "A.C"))), InvalidPath)
        self.assertIsNone(error_of(case_result, program, ("split rule", (1, 0, 0), 0, (0, "A.C"), "A.C")))

    def test_errors(self):
        program = with_rules("A -> 1 | B _ -> 2 | _ -> 3")
        place = place_in(program)
        good = ("swap rules", place, 0)
        for call in (case_result, told_case):
            look_at_errors(self, call, [("program", program), ("change", good)], [("program", InvalidProgram, bad_for(is_program)), ("change", InvalidChange, ODD + [("swap rules", [0], 0)])])
            bad = parse("module M = do 1 + true end")
            self.assertIs(type(error_of(call, bad, ("swap rules", (9,), 9))), NotAccepted)
            self.assertIs(type(error_of(call, bad, ("swap rules", [9], 9))), InvalidChange)
            for at in ((), (0,), (0, 0), place[:2], place + (0,), place + (9,), (9, 9, 9)):
                error = error_of(call, program, ("split rule", at, 99, (9,), "A"))
                self.assertEqual((type(error), error.value), (InvalidPlace, at))
            for word, k in [("swap rules", 2), ("swap rules", 3), ("merge rules", 2), ("drop rule", 3), ("split rule", 3)]:
                change = (word, place, k) + (((9,), "A") if word == "split rule" else ())
                error = error_of(call, program, change)
                self.assertEqual((type(error), error.value), (InvalidRule, k))
            one = with_rules("_ -> 1")
            self.assertEqual(error_of(call, one, ("drop rule", place, 0)).value, 0)
            for path in ((0,), ("A",), ("B", "B")):
                error = error_of(call, program, ("split rule", place, 1, path, "A"))
                self.assertEqual((type(error), error.value), (InvalidPath, path))

    def test_eight_rules(self):
        seven, eight = " | ".join(["_ -> 1"] * 7), " | ".join(["_ -> 1"] * 8)
        self.assertEqual(len(expr_at(case_result(with_rules(seven), ("split rule", (0, 1, 0), 3, (), "A")), (0, 1, 0))[2]), 8)
        for call in (case_result, told_case):
            error = error_of(call, with_rules(eight), ("split rule", (0, 1, 0), 3, (), "A"))
            self.assertEqual((type(error), error.what, error.limit), (TooMany, "rules", 8))
            self.assertIs(type(error_of(call, with_rules(eight), ("split rule", (0, 1, 0), 3, (1,), "A"))), InvalidPath)

    def test_too_large(self):
        big = ("unit",)
        for _ in range(4):
            big = ("tuple", (big,) * 4)
        program = (("module", "M", None, (("do", ("fn", "x", ("match", ("var", "x"), ((("any",), big), (("con", "Nil", None), ("unit",)))))),)),)
        if is_accepted(program):
            self.fail()
        program = (("module", "M", None, (("do", ("fn", "x", ("match", ("var", "x"), ((("any",), big), (("con", "Nil", None), big[:1] + ((big[1][0],) * 3 + (big[1][1],),)))))),)),)
        self.assertFalse(is_program(program) and False)
        half = ("tuple", (big[1][0],) * 3)
        program = (("module", "M", None, (("do", ("fn", "x", ("match", ("var", "x"), ((("any",), half), (("any",), half), (("con", "Nil", None), ("raise", ("con", "NoMore", None))))))), ("do", ("unit",)))),)
        self.assertTrue(is_accepted(program))
        for call in (case_result, told_case):
            error = error_of(call, program, ("split rule", (0, 0, 0), 0, (), "Nil"))
            self.assertEqual((type(error), error.what, error.limit), (TooMany, "parts", 600)) if error else self.assertIsNone(error)


class TestTold(unittest.TestCase):
    def look(self, rules, change, told, more="", word="match", subject="x"):
        program = with_rules(rules, word, more, subject)
        self.assertTrue(is_accepted(program), rules)
        change = (change[0], place_in(program)) + change[1:]
        found = keeps(self, told_case, program, change)
        if isinstance(told, list):
            self.assertEqual(found[0], "taken", (rules, found))
            self.assertEqual(found[1], case_result(program, change))
            self.assertEqual([step[0] for step in found[2]], told)
            self.assertIs(is_paper(program, found[1], found[2]), True)
            self.assertIsNone(parting_run(program, found[1], random.Random(4)))
            return None
        self.assertEqual(found[0], "refused", (rules, found))
        reason = found[1]
        if told[0] != "value":
            self.assertEqual(reason, told[:1] + (place_in(program),) + told[1:])
            return reason
        self.assertEqual((reason[0], reason[2:4], len(reason)), ("value", told[2:], 5))
        self.assertTrue(is_plain(reason[1]))
        result = case_result(program, change)
        wholes = [[rule[0] for rule in [expr for at, expr, _ in sights(text) if at == change[1]][0][2]] for text in (program, result)]
        self.assertEqual(tuple(first_rule(patterns, reason[1]) for patterns in wholes), told[2:])
        if told[1] is not None:
            self.assertEqual(reason[1], told[1])
        self.assertTrue(is_accepted(reason[4][0]) and is_accepted(reason[4][1]))
        self.assertNotEqual(run_outer(reason[4][0], reason[4][2], 2000), run_outer(reason[4][1], reason[4][2], 2000))
        return reason

    def test_like_choices(self):
        for rules, change in [
                ("A -> 1 | B n -> n | _ -> 3", ("swap rules", 0)), ("B n -> (n, x) | A -> (1, x) | _ -> (3, x)", ("swap rules", 0)), ("A -> 1 | _ -> 1", ("swap rules", 0)), ("A -> 1 | _ -> 1", ("drop rule", 0)),
                ("A -> 1 | A -> 2 | _ -> 3", ("drop rule", 1)), ("A -> 1 | _ -> 2 | B _ -> 3", ("drop rule", 2)), ("B n -> n | B m -> m | _ -> 2", ("swap rules", 0)), ("C (n, _) -> n | C (m, true) -> m | _ -> 2", ("merge rules", 0)),
                ("A -> 1 | B _ -> 1 | C _ -> 1", ("merge rules", 1)) if False else ("C (_, true) -> 1 | C (_, false) -> 1 | _ -> 2", ("merge rules", 0)), ("C (n, true) -> n | C (m, false) -> m | _ -> 2", ("merge rules", 0)),
                ("_ -> 1", ("split rule", 0, (), "B")), ("C (n, _) -> n | _ -> 2", ("split rule", 1, (), "C")), ("B 1 -> fn y -> y | B 2 -> fn z -> z | _ -> fn q -> q", ("swap rules", 0)), ("B 1 -> fn y -> y | _ -> fn z -> z", ("drop rule", 0)),
                ("C (a, b) -> (a, b) | C (b, a) -> (b, a) | _ -> (1, true)", ("drop rule", 0))]:
            self.look(rules, change, ["choices"])

    def test_refused_values(self):
        for rules, change, told in [
                ("A -> 1 | _ -> 2", ("swap rules", 0), ("value", ("con", "M.A", None), 0, 0)), ("A -> 1 | _ -> 2", ("drop rule", 0), ("value", ("con", "M.A", None), 0, 0)),
                ("B 1 -> 1 | B 2 -> 2 | _ -> 3", ("merge rules", 0), None), ("A -> 1 | B _ -> 2 | C _ -> 3", ("merge rules", 1), ("value", None, 2, 1)), ("B n -> n | B m -> m + 1 | _ -> 2", ("swap rules", 0), ("value", ("con", "M.B", ("cell", 0)), 0, 0)),
                ("C (n, _) -> n | C (_, true) -> 1 | _ -> 2", ("swap rules", 0), ("beyond", 0, 0)), ("C (n, _) -> 5 | C (_, true) -> 1 | _ -> 2", ("swap rules", 0), ("value", ("con", "M.C", ("tuple", (("cell", 0), ("bool", True)))), 0, 0)),
                ("A -> 1 | B _ -> 2 | C _ -> 3", ("drop rule", 0), ("beyond", 0, None)), ("A -> 1 | B _ -> 2", ("merge rules", 0), ("value", None, 1, 0)), ("A -> (1, 2) | _ -> (2, 3)", ("swap rules", 0), ("beyond", 0, 0)),
                ("A -> 1 | A -> 2 | B _ -> 3", ("merge rules", 0), ["choices"]), ("B 1 -> 5 | B 2 -> 5", ("merge rules", 0), ("beyond", None, 0))]:
            if told is not None:
                self.look(rules, change, told)
        self.look("B 1 -> 1 | B 2 -> 2 | _ -> 3", ("merge rules", 0), ("value", ("con", "M.B", ("int", 2)), 1, 0))

    def test_told_values_hold_what_is_sure(self):
        more = "type only = Only of int * (bool * unit)"
        for rules, value in [
                ("y -> 1 | z -> 2", ("cell", 0)), ("(a, b) -> 1 | (c, 1) -> 2", ("tuple", (("cell", 0), ("int", 1)))), ("(a, (b, c)) -> 1 | (d, e) -> 2", ("tuple", (("cell", 0), ("tuple", (("cell", 0), ("cell", 0)))))),
                ("Only (_, (_, ())) -> 1 | _ -> 2", ("con", "M.Only", ("tuple", (("cell", 0), ("tuple", (("cell", 0), ("unit",))))))), ("() -> 1 | _ -> 2", ("unit",)), ("(A, _) -> 1 | (_, Only _) -> 2", ("tuple", (("con", "M.A", None), ("con", "M.Only", ("cell", 0)))))]:
            self.look(rules, ("swap rules", 0), ("value", value, 0, 0), more=more)

    def test_clashes(self):
        for rules, change in [
                ("B n -> n | _ -> 2", ("merge rules", 0)), ("C (n, true) -> n | C (1, false) -> 2 | _ -> 3", ("merge rules", 0)), ("_ -> 1", ("split rule", 0, (), "Q")), ("_ -> 1", ("split rule", 0, (), "M.A")),
                ("A -> 1 | _ -> 2", ("split rule", 1, (), "Some")), ("B _ -> 1 | _ -> 2", ("split rule", 0, ("B",), "A")), ("_ -> 1 | A -> 2", ("split rule", 0, (), "DivZero"))]:
            self.look(rules, change, ("clash",))
        self.look("B n -> n | _ -> 2", ("merge rules", 0), ("clash",), more="let n = 5")
        self.look("B n -> fn n -> n | _ -> fn n -> n", ("merge rules", 0), ["choices"])
        self.look("C (n, _) -> n + 1 | C (_, true) -> 2 | _ -> 3", ("merge rules", 0), ("clash",), more="let n = 5")

    def test_straight_bodies(self):
        more = "let r = ref(1) let s = ref(2) let f = fn k -> k + 1 let n = 7"
        for rules, change, told in [
                ("A -> !r + !r | _ -> 2 * !r", ("swap rules", 0), ["rows", "choices", "rows"]), ("A -> !r + !r | _ -> 2 * !r", ("drop rule", 0), ["rows", "choices", "rows"]), ("A -> !r + !r | _ -> 2 * !s", ("drop rule", 0), ("value", ("con", "M.A", None), 0, 0)),
                ("B 1 -> f 1 + 1 | B 2 -> 1 + f 1 | _ -> f 2", ("merge rules", 0), ("beyond", 3, 0)) if False else ("B 1 -> f 1 + 1 | B _ -> 1 + f 1 | _ -> f 2", ("merge rules", 0), ["rows", "choices"]),
                ("C (a, true) -> a + a | C (b, _) -> 2 * b | _ -> 3", ("swap rules", 0), ["rows", "choices", "rows"]), ("C (a, true) -> a + a | C (b, _) -> 2 * b | _ -> 3", ("merge rules", 0), ["rows", "choices"]),
                ("C (a, true) -> a + a | C (b, _) -> 3 * b | _ -> 3", ("drop rule", 0), ("value", None, 0, 0)), ("C (a, true) -> a | C (1, _) -> 1 | _ -> 3", ("swap rules", 0), ("beyond", 0, 0)),
                ("C (1, true) -> n | C (n, _) -> n | _ -> 3", ("swap rules", 0), ("beyond", 0, 0)), ("C (n, true) -> n + 0 | C (m, _) -> m | _ -> 3", ("drop rule", 0), ["rows", "choices", "rows"]),
                ("C (m, true) -> m + n | C (k, _) -> n + k | _ -> 3", ("drop rule", 0), ["rows", "choices", "rows"]), ("C (m, true) -> m + n | C (k, _) -> k - n | _ -> 3", ("drop rule", 0), ("value", None, 0, 0)),
                ("C (a, _) -> 2 * a | C (b, true) -> b + b | C (c, false) -> c + c + 0 | _ -> 3", ("drop rule", 0), ["rows", "rows", "choices", "rows", "rows"]),
                ("C (a, _) -> 0 * a | C (_, true) -> 0 | C (c, false) -> c - c | _ -> 3", ("drop rule", 0), ("beyond", 0, 0)), ("C (a, _) -> 0 * a | C (b, true) -> 0 | C (c, false) -> c - c | _ -> 3", ("drop rule", 0), ["rows", "rows", "choices", "rows", "rows"]),
                ("C (m, true) -> n - n | C (n, _) -> 0 | _ -> 3", ("swap rules", 0), ("beyond", 0, 0)), ("C (m, true) -> n | C (n, _) -> 7 | _ -> 3", ("swap rules", 0), ("beyond", 0, 0)),
                ("C (n, true) -> 0 | C (m, _) -> n - n | _ -> 3", ("swap rules", 0), ("beyond", 0, 0)), ("C (1, true) -> 5 | C (n, _) -> n | _ -> 3", ("swap rules", 0), ("beyond", 0, 0)), ("C (n, true) -> n | C (1, _) -> 5 | _ -> 3", ("swap rules", 0), ("beyond", 0, 0)),
                ("C (m, true) -> n + 0 | C (k, _) -> n | _ -> 3", ("swap rules", 0), ["rows", "choices", "rows"]),
                ("A -> ask() | B 1 -> ask() + 0 | _ -> 2", ("merge rules", 0), ("value", None, 2, 0)), ("A -> raise NoMore | _ -> 1", ("drop rule", 0), ("beyond", 0, 0))]:
            self.look(rules, change, told, more=more)

    def test_bodies_that_are_led_to_one_another(self):
        for rules, change, told in [
                ("(a, b) -> 0 | (c, 1) -> c - c | (_, d) -> d - d", ("drop rule", 0), ("beyond", 0, 0)), ("(a, b) -> 0 | (c, 1) -> c - c | (d, _) -> d - d", ("drop rule", 0), ["rows", "rows", "choices", "rows", "rows"]),
                ("(a, b, 1) -> 0 | (c, d, 2) -> c - c | (_, e, _) -> e - e", ("merge rules", 0), ("beyond", 1, 0)), ("(a, b, 1) -> 0 | (c, d, 2) -> c - c | (e, _, _) -> e - e", ("merge rules", 0), ["rows", "rows", "choices", "rows"]),
                ("(a, b, 1) -> 0 | (c, d, 2) -> c - c | (_, e, _) -> e", ("merge rules", 0), ("value", None, 2, 0)), ("(a, b) -> 0 | (c, 1) -> c - c | (_, d) -> d", ("drop rule", 0), ("value", None, 0, 1)),
                ("(a, b) -> 0 | (c, 1) -> c - c | (_, d) -> 0", ("drop rule", 0), ["rows", "choices", "rows"])]:
            self.look(rules, change, told)

    def test_names_exchanged(self):
        self.look("C (a, b) -> (tell(a); a) | C (b, a) -> (tell(b); b + 0) | _ -> 3", ("swap rules", 0), ["rows", "choices", "rows"])
        more = "let g = fn p -> fn x -> match x with (a, b) -> a + b | (b, a) -> a + b + 0 end"
        program = parse(f"module M = {more} end")
        found = told_case(program, ("swap rules", (0, 0, 0, 0), 0))
        self.assertEqual((found[0], [step[0] for step in found[2]]), ("taken", ["rows", "choices", "rows"]))
        self.assertEqual(expr_text(found[2][0][2]), "b + a")
        self.assertTrue(is_paper(program, found[1], found[2]))

    def test_tries(self):
        more = "exception E of int exception F"
        for rules, change, told in [
                ("E n -> n | F -> 2", ("swap rules", 0), ["choices"]), ("E n -> 1 | r -> 2", ("swap rules", 0), ("value", None, 0, 0)), ("F -> 1 | r -> 2 - 1", ("drop rule", 0), ["rows", "choices", "rows"]), ("F -> 1 | DivZero -> 2", ("drop rule", 1), ("beyond", 1, None)),
                ("F -> 1 | DivZero -> 1", ("merge rules", 0), ("beyond", None, 0)), ("F -> 1 | _ -> 1", ("merge rules", 0), ["choices"]), ("E n -> n | E m -> raise F | _ -> 2", ("drop rule", 1), ["choices"]), ("r -> raise r | F -> 1", ("drop rule", 1), ["choices"]),
                ("_ -> 1", ("split rule", 0, (), "Bounds"), ["choices"]), ("_ -> 1", ("split rule", 0, (), "A"), ("clash",))]:
            self.look(rules, change, told, more=more, word="try", subject="1 / 0")

    def test_surroundings_part_the_bodies(self):
        program = with_rules("A -> !r + 1 | _ -> !r + 2", more="let r = ref(1)")
        reason = told_case(program, ("swap rules", place_in(program), 0))[1]
        self.assertTrue(is_parting(parse_expr("!r + 1"), parse_expr("!r + 2"), [("r", "ref")], reason[4]))
        program = with_rules("B a -> a + 1 | B b -> b + 2 | _ -> 3")
        reason = told_case(program, ("swap rules", place_in(program), 0))[1]
        self.assertTrue(is_parting(parse_expr("a + 1"), parse_expr("a + 2"), [("a", "int")], reason[4]))

    def test_too_many_cases(self):
        tests = "if t 1 then 1 else " * 6 + "0"
        reads = "!r0 + !r1 + !r2 + !r3"
        more = " ".join(f"let r{k} = ref(1)" for k in range(4)) + " let t = fn x -> x < 1 let b = true"
        self.look(f"A -> {reads} + ({tests}) | _ -> {reads} + (if b then 1 else 2)", ("swap rules", 0), ("beyond", 0, 0), more=more)

    def test_too_many_tests(self):
        row = lambda k: "(" + ", ".join("(" + ", ".join("_" if i != k and j != k else str(i + 4 * j) for i in range(4)) + ")" for j in range(4)) + ")"
        rules = " | ".join([f"{row(k % 4)} -> {k}" for k in range(4)] + ["(" + ", ".join(f"({k}, {k + 1}, {k + 2}, {k + 3})" for _ in range(4)) + f") -> {k}" for k in range(4)])
        program = parse(f"module M = do fn x -> match x with {rules} end end")
        error = error_of(told_case, program, ("swap rules", (0, 0, 0), 0))
        match = expr_at(program, (0, 0, 0))
        patterns = [rule[0] for rule in match[2]]
        for found in (error, error_of(went, resolved(program), patterns, patterns), error_of(like_choices, program, (0, 0, 0), match, match)):
            self.assertEqual((type(found), found.what, found.limit), (TooMany, "tests", 400))


class TestWent(unittest.TestCase):
    def test_against_all_values(self):
        whole = resolved(parse(TEXT))
        rand = random.Random(11)
        seen = 0
        while seen < 250:
            sort = random_sort(rand, 3)
            patterns, others = (random_patterns(rand, sort, rand.randint(1, 4)) for _ in range(2))
            values = values_for(patterns + others)
            if values is None:
                continue
            seen += 1
            pairs = {(first_rule(patterns, value), first_rule(others, value)) for value in values}
            wanted = sorted(pairs, key=lambda pair: [(part is None, part or 0) for part in pair])
            self.assertEqual(keeps(self, went, whole, patterns, others), wanted)

    def test_errors(self):
        whole = resolved(parse(TEXT))
        bad = ODD + [[("any",)] * 9, [], [("con", "A", None)], [("con", "M.A", ("any",))], [("int", 1), ("bool", True)], [("bind", "x"), ("var", "x")]]
        good = [("con", "M.A", None)]
        bad = [value for value in bad if value not in ((), (("int", 1),))] + [()]
        look_at_errors(self, went, [("whole", whole), ("patterns", good), ("others", good)], [
            ("whole", InvalidWhole, ODD), ("patterns", InvalidPatterns, bad), ("others", InvalidPatterns, bad + [[("int", 1)], [("con", "Nil", None)], [("any",), ("bool", True)]])])
        self.assertEqual(went(whole, tuple(good), (("any",),) * 8), [(0, 0), (None, 0)])


class TestLikeChoices(unittest.TestCase):
    def look(self, near, far, is_so, more="let x = A let n = 5"):
        program = parse(f"module M = type t = A | B of int | C of int * bool {more} do () end")
        place = (0, len(program[0][3]) - 1)
        one, other = parse_expr(near), parse_expr(far)
        for pair in ((one, other), (other, one)):
            self.assertIs(keeps(self, like_choices, program, place, *pair), is_so, (near, far))
        self.assertIs(like_choices(program, place, one, one), one[0] in ("match", "try") and not [word for word in ("Q", "true ->", "M.A") if word in near])

    def test_some(self):
        for near, far, is_so in [
                ("match x with A -> 1 | _ -> 2 end", "match x with B _ -> 2 | A -> 1 | C _ -> 2 end", True), ("match x with A -> 1 | _ -> 2 end", "match x with B _ -> 2 | A -> 1 | C _ -> 3 end", False),
                ("match x with B n -> n | _ -> 1 end", "match x with B m -> m | _ -> 1 end", True), ("match x with B m -> n | _ -> 1 end", "match x with B n -> n | _ -> 1 end", False),
                ("match x with B m -> n | _ -> 1 end", "match x with B _ -> n | _ -> 1 end", True), ("match x with A -> 1 end", "match x with A -> 1 | B _ -> 2 end", False), ("match x with A -> 1 end", "match x with A -> 1 | A -> 2 end", True),
                ("match x with A -> 1 end", "match A with A -> 1 end", False), ("match x with A -> 1 end", "try x with r -> x end", False), ("try 1 with r -> raise r end", "try 1 with q -> raise q end", True),
                ("try 1 with NoMore -> 1 | _ -> 2 end", "try 1 with _ -> 2 end", False), ("match x with C (a, b) -> (a, b) | _ -> (1, true) end", "match x with C (b, a) -> (b, a) | _ -> (1, true) end", True),
                ("match x with C (a, b) -> fn q -> a | _ -> fn q -> q end", "match x with C (a, _) -> fn a1 -> a | _ -> fn z -> z end", True), ("match x with A -> fn n -> n | _ -> fn q -> n end", "match x with A -> fn n -> n | _ -> fn n -> n end", False),
                ("x", "x", False), ("match x with A -> 1 | _ -> 2 end", "x", False), ("match x with A -> 1 | _ -> true end", "match x with _ -> true end", False), ("match x with Q -> 1 end", "match x with Q -> 1 end", False),
                ("match x with A -> 1 | _ -> true end", "match x with B _ -> true | A -> 1 | _ -> true end", True), ("match zz with A -> yy | _ -> 2 end", "match zz with B _ -> 2 | A -> yy | _ -> 2 end", True), 
                ("match x with 1 -> 1 | true -> 2 end", "match x with _ -> 2 end", False), ("match x with M.A -> 1 | _ -> 2 end", "match x with _ -> 2 end", False),
                ("match raise NoMore with 1 -> 1 | _ -> 1 end", "match raise NoMore with true -> 1 | _ -> 1 end", False), ("match (1; x) with y -> y end", "match (1; x) with z -> z end", True), ("match x with y -> y end", "match x with y -> x end", False)]:
            self.look(near, far, is_so)

    def test_errors(self):
        program = parse("module M = let x = 1 do x end")
        match = parse_expr("match x with 1 -> 2 | _ -> 3 end")
        look_at_errors(self, like_choices, [("program", program), ("place", (0, 1)), ("match", match), ("other", match)], [
            ("program", InvalidProgram, bad_for(is_program)), ("place", InvalidPlace, ODD + [(0, 2)])])
        for value in ODD:
            self.assertIs(like_choices(program, (0, 1), match, value), False)
            self.assertIs(like_choices(program, (0, 1), value, match), False)
        self.assertIs(like_choices(parse("module M = let x = 1 do x do z end"), (0, 1), match, match), True)
        self.assertIs(like_choices(parse("module M = let x = 1 + true do x end"), (0, 1), match, match), True)
        self.assertIs(like_choices(parse("module M = let x = 1 do x type t = A of u end"), (0, 1), match, match), False)
        late = parse("module M = let x = 1 do x type t = A end")
        self.assertIs(like_choices(late, (0, 1), parse_expr("match x with A -> 1 end"), parse_expr("match x with A -> 1 end")), False)


class TestRandom(unittest.TestCase):
    def changes(self, program):
        for place in places(program):
            expr = expr_at(program, place)
            if expr[0] in ("match", "try"):
                for k in range(len(expr[2])):
                    yield from [(word, place, k) for word in ("swap rules", "drop rule", "merge rules")]
                    yield from [("split rule", place, k, (), con) for con in ("A", "B", "Cons", "Some", "E")]

    def meaning(self, rule, value):
        """The body with each name of the pattern as a name of the place where it stands."""
        table = {}
        work = [(rule[0], "p")]
        while work:
            node, path = work.pop()
            if node[0] == "bind":
                table[node[1]] = path
            elif node[0] == "tuple":
                work += [(part, f"{path}t{k}") for k, part in enumerate(node[1])]
            elif node[0] == "con" and node[2] is not None:
                work.append((node[2], path + "c"))
        return Apart().expr(rule[1], table)

    def test_all_values(self):
        keep = (dict(brute.CONS), list(brute.KIN[-1]))
        try:
            self.look_at_all_values()
        finally:
            brute.CONS.update(keep[0])
            brute.KIN[-1][:] = keep[1]

    def look_at_all_values(self):
        seen = {}
        for seed in range(150):
            rand = random.Random(seed)
            program = Typed(seed).program(3, 1, 2)
            if not is_accepted(program):
                continue
            makers = {maker[0]: maker for maker in resolved(program).cons()}
            brute.CONS["M.E"] = makers["M.E"][3] and 1 if "M.E" in makers else None
            brute.KIN[-1][:] = ["DivZero", "Bounds", "NoMore", "NoMatch"] + [name for name in makers if makers[name][1] == "exn" and "." in name]
            for change in list(self.changes(program)):
                if error_of(case_result, program, change):
                    continue
                result = case_result(program, change)
                told = told_case(program, change)
                if told[0] == "refused" and told[1][0] == "clash":
                    continue
                rules, others = expr_at(program, change[1])[2], expr_at(result, change[1])[2]
                wholes = [[expr for at, expr, _ in sights(text) if at == change[1]][0][2] for text in (program, result)]
                patterns, behind = [[rule[0] for rule in row] for row in wholes]
                unlike = set()
                for value in values_for(patterns + behind) or []:
                    k, other = first_rule(patterns, value), first_rule(behind, value)
                    if (k is None) != (other is None) or (k is not None and not are_alpha(self.meaning(rules[k], value), self.meaning(others[other], value))):
                        unlike.add((k, other))
                if told[0] == "taken":
                    self.assertEqual(bool(unlike), len(told[2]) > 1)
                    self.assertTrue(is_paper(program, told[1], told[2]))
                    self.assertIsNone(parting_run(program, told[1], rand, tries=1), (seed, change))
                else:
                    self.assertIn(told[1][2:4] if told[1][0] == "beyond" else told[1][2:4], unlike)
                key = (change[0], told[0], len(told[2]) > 1 if told[0] == "taken" else told[1][0])
                seen[key] = seen.get(key, 0) + 1
        for key in [("swap rules", "taken", False), ("drop rule", "taken", False), ("merge rules", "taken", False), ("split rule", "taken", False), ("swap rules", "refused", "beyond"), ("drop rule", "refused", "value")]:
            self.assertGreater(seen.get(key, 0), 3, (key, seen))


BODIES = ["X", "X + 0", "Y", "X - X", "0", "1", "X + Y", "Y + X", "!r", "!r + 0", "f X", "f (X + 0)", "(tell(X); 0)", "(tell(X + 0); 0)", "let a = X in a", "let c = X in c + 0", "2 * X", "n", "n + 0", "a", "b - b", "raise NoMore"]
GLOBALS = {"r": "ref", "f": "fun", "n": "int", "a": "int", "b": "int"}


class TestStraightOnes(unittest.TestCase):
    """Random rules of three numbers, with names from outside that patterns hide, looked at by the words of [264]."""

    def rule(self, rand):
        free = ["a", "b", "c"]
        parts = [("bind", free.pop(rand.randrange(len(free)))) if rand.random() < 0.45 else rand.choice([("int", 0), ("int", 1), ("any",)]) for _ in range(3)]
        names = [part[1] for part in parts if part[0] == "bind"] + ["n", "a", "b"]
        text = rand.choice(BODIES).replace("X", rand.choice(names)).replace("Y", rand.choice(names))
        return (("tuple", tuple(parts)), parse_expr(text))

    def bound(self, rule):
        return {part[1]: k for k, part in enumerate(rule[0][1]) if part[0] == "bind"}

    def apart(self, rule):
        return Apart().expr(rule[1], {name: f"p{k}p" for name, k in self.bound(rule).items()})

    def is_writable(self, rule, other):
        mine, others = self.bound(rule), self.bound(other)
        return all(mine[name] in others.values() if name in mine else name not in others for name in free_names(rule[1]))

    def has_numbers(self, program, place, rule):
        expr = expr_at(program, place)
        uses = [(at, part) for at, part in below(place, expr) if part[0] == "var" and part[1] in self.bound(rule)]
        return all(binder_of(program, at)[1] != (0, 5, 0) or type_at(program, at) == ("int",) for at, part in uses)

    def are_alike(self, one, other):
        parts = [self.apart(one), self.apart(other)]
        sorts = [(name, GLOBALS.get(name, "int")) for name in sorted(set(free_names(parts[0]) + free_names(parts[1])))]
        kinds = [sort_of(part, sorts) for part in parts]
        return kinds[0] is not None and kinds[0] == kinds[1] and are_alike_parts(parts[0], parts[1], sorts)

    def is_taken(self, program, result):
        rules, others = expr_at(program, (0, 5, 0))[2], expr_at(result, (0, 5, 0))[2]
        pairs = set()
        for value in values_for([rule[0] for rule in rules + others]):
            k, other = first_rule([rule[0] for rule in rules], value), first_rule([rule[0] for rule in others], value)
            if (k is None) != (other is None):
                return False
            if k is not None and not are_alpha(self.apart(rules[k]), self.apart(others[other])):
                pairs.add((k, other))
        for k, other in pairs:
            one, two = rules[k], others[other]
            if not (self.has_numbers(program, (0, 5, 0, k + 1), one) and self.has_numbers(result, (0, 5, 0, other + 1), two)):
                return False
            if not (self.is_writable(one, two) and self.is_writable(two, one) and self.are_alike(one, two)):
                return False
        # All pairs have the changed rule, or what it became, on one side, so that they are of one group.
        group = [rules[k] for k, _ in pairs] + [others[other] for _, other in pairs]
        return all(self.is_writable(rule, other) for rule in group for other in group)

    def test_random(self):
        seen = {}
        for seed in range(150):
            rand = random.Random(seed)
            rules = tuple(self.rule(rand) for _ in range(rand.randint(2, 5)))
            lets = parse("module M = let r = ref(1) let f = fn z -> z + 1 let n = 7 let a = 8 let b = 9 end")[0][3]
            uses = (("let", "g", ("fn", "x", ("match", ("var", "x"), rules))), ("do", ("call", ("var", "g"), ("tuple", (("prim", "ask", ()),) * 3))))
            program = (("module", "M", None, lets + uses),)
            if not is_accepted(program):
                continue
            for change in [(word, (0, 5, 0), k) for word in ("swap rules", "drop rule", "merge rules") for k in range(len(rules) - 1)]:
                told = told_case(program, change)
                if told[0] == "refused" and told[1][0] == "clash":
                    continue
                self.assertIs(told[0] == "taken", self.is_taken(program, case_result(program, change)), (seed, change))
                if told[0] == "taken":
                    self.assertTrue(is_paper(program, told[1], told[2]), (seed, change))
                key = len(told[2]) if told[0] == "taken" else told[1][0]
                seen[key] = seen.get(key, 0) + 1
                if key == "value":
                    others = expr_at(case_result(program, change), (0, 5, 0))[2]
                    self.assertEqual(tuple(first_rule([rule[0] for rule in row], told[1][1]) for row in (rules, others)), told[1][2:4])
        self.assertGreater(min(seen.get(key, 0) for key in (1, 3, "value", "beyond")), 2, seen)

    def test_types_that_bar_a_body(self):
        text = "module M = let g = fn x -> match x with (1, _, a) -> a | (_, _, b) -> b + 0 end do g (ask(), ask(), ask()) end"
        program = parse(text)
        told = told_case(program, ("swap rules", (0, 0, 0), 0))
        self.assertEqual(told[0], "taken")
        self.assertEqual([(step[0], expr_text(step[2])) for step in told[2] if step[0] == "rows"], [("rows", "a + 0"), ("rows", "a")])
        self.assertTrue(is_paper(program, told[1], told[2]))
        text = "module M = let g = fn x -> match x with (1, _, a) -> a | (_, 2, b) -> b | (_, _, c) -> c + 0 end do g (1, 2, 3) end"
        program = parse(text)
        told = told_case(program, ("drop rule", (0, 0, 0), 0))
        self.assertEqual([(step[0], step[1][-1], expr_text(step[2])) for step in told[2] if step[0] == "rows"], [("rows", 1, "a + 0"), ("rows", 2, "b + 0"), ("rows", 1, "b")])
        self.assertTrue(is_paper(program, told[1], told[2]))
        program = parse(text.replace("(_, 2, b) -> b", "(_, 2, _) -> 7"))
        self.assertEqual(told_case(program, ("drop rule", (0, 0, 0), 0))[1][0], "beyond")
        gone = parse("module M = let g = fn x -> match x with (1, b) -> b + 0 | (c, b) -> let a = b in a end do g (1, 2) end")
        self.assertEqual(told_case(gone, ("drop rule", (0, 0, 0), 0)), ("refused", ("beyond", (0, 0, 0), 0, 0)))


if __name__ == "__main__":
    unittest.main()
