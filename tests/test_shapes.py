"""Changes of the shape of a data type: [265], [266]."""

import itertools
import random
import unittest

from checking import ODD, bad_for, error_of, keeps, look_at_errors
from running import parting_run
from typed import Typed

from changedsame.checker import is_paper
from changedsame.errors import InvalidChange, InvalidConstructor, InvalidProgram, NotAccepted, TooMany
from changedsame.infer import is_accepted
from changedsame.parser import parse
from changedsame.printer import program_text
from changedsame.shapes import is_shape_change, told_shape, turned_done
from changedsame.trees import is_program, parts_of

def padded(many):
    """An expression of so many parts."""
    if many <= 2:
        return ("unit",) if many == 1 else ("con", "Some", ("unit",))
    half = (many - 1) // 2
    return ("tuple", (padded(half), padded(many - 1 - half)))


TYPES = "module A = type t('a) = C of int * bool * 'a | D | S of int exception E of int * t(int) exception F of int"


class TestForm(unittest.TestCase):
    def test_what_is_one(self):
        for change in [("turn shape", "M.C", (1, 0)), ("turn shape", "C", (0, 1)), ("turn shape", "M.C", (3, 1, 0, 2)), ("turn shape", "Q.Z", (2, 1, 0))]:
            self.assertIs(keeps(self, is_shape_change, change), True, change)
        for value in ODD + [("turn shape", "M.C", [1, 0]), ("turn shape", "M.C", (0,)), ("turn shape", "M.C", ()), ("turn shape", "M.C", (0, 1, 2, 3, 4)), ("turn shape", "M.C", (1, 1)),
                            ("turn shape", "M.C", (1, 2)), ("turn shape", "M.C", (True, False)), ("turn shape", "M.C", (0, True)), ("turn shape", "M.c", (1, 0)), ("turn shape", None, (1, 0)),
                            ("turn shape", "M.C", (-1, 0)), ("turn shape", "M.C", (1, 0), 1), ("turn shape", "M.C"), ["turn shape", "M.C", (1, 0)], ("turn", "M.C", (1, 0)), ("turn shape", "M.C", ("1", "0"))]:
            self.assertIs(is_shape_change(value), False, value)


class TestTold(unittest.TestCase):
    def look(self, text, change, wanted, many_named):
        program = parse(text)
        told = keeps(self, told_shape, program, change)
        if isinstance(wanted, tuple):
            self.assertEqual(told, ("refused", ("clash", wanted)))
            self.assertIsNone(keeps(self, turned_done, program, change))
            return
        self.assertEqual((told[0], program_text(told[1])), ("taken", program_text(parse(wanted))))
        self.assertIsInstance(told[2], list)
        self.assertEqual([step[0] for step in told[2]], ["named"] * many_named + ["turned"])
        self.assertIs(is_paper(program, told[1], told[2]), True)
        self.assertEqual(keeps(self, turned_done, program, change), None if many_named else told[1])
        self.assertIsNone(parting_run(program, told[1], random.Random(3)))

    def test_taken(self):
        one, two, turn = "exception E of int * bool", "exception E of bool * int", ("turn shape", "M.E", (1, 0))
        for text, wanted, many in [
                ("do raise (E (1, true))", "do raise (E (true, 1))", 0), ("do fn x -> try x with E (a, _) -> a | E _ -> 2 | r -> 3 end", "do fn x -> try x with E (_, a) -> a | E _ -> 2 | r -> 3 end", 0),
                ("do raise (E (ask(), true))", "do raise (let q0 = ask() in E (true, q0))", 1), ("do E (ask(), ask() = 1)", "do let q0 = ask() in let q1 = ask() = 1 in E (q1, q0)", 2),
                ("do E (1, ask() = 1)", "do let q0 = ask() = 1 in E (q0, 1)", 1), ("let q0 = 1 do E (ask(), true)", "let q0 = 1 do let q1 = ask() in E (true, q1)", 1),
                ("do fn q1 -> (E (ask(), true), E (ask(), false))", "do fn q1 -> (let q0 = ask() in E (true, q0), let q2 = ask() in E (false, q2))", 2),
                ("do E ((fn u -> 5) (E (ask(), true)), ask() = 1)", "do let q0 = (fn u -> 5) (let q2 = ask() in E (true, q2)) in let q1 = ask() = 1 in E (q1, q0)", 3),
                ("do E (1, (fn u -> false) (E (ask(), ask() = 2)))", "do let q0 = (fn u -> false) (let q1 = ask() in let q2 = ask() = 2 in E (q2, q1)) in E (q0, 1)", 3),
                ("do fn a -> match (a, 1) with (E (_, b), 1) -> b | (_, c) -> true end", "do fn a -> match (a, 1) with (E (b, _), 1) -> b | (_, c) -> true end", 0),
                ("do fn a -> match a with Some (E (_, b)) -> b | Some _ -> true | None -> true end", "do fn a -> match a with Some (E (b, _)) -> b | Some _ -> true | None -> true end", 0)]:
            self.look(f"module M = {one} {text} end", turn, f"module M = {two} {wanted} end", many)

    def test_data_of_other_modules(self):
        text = TYPES + " do C (1, true, ()) end module B = do A.C (2, false, D1) do fn x -> match x with A.C (a, b, (c, A.C (d, e, f))) -> b | A.D -> true | _ -> false end end"
        wanted = TYPES.replace("int * bool * 'a", "'a * int * bool") + " do C ((), 1, true) end module B = do A.C (D1, 2, false) do fn x -> match x with A.C ((c, A.C (f, d, e)), a, b) -> b | A.D -> true | _ -> false end end"
        self.look(text.replace("D1", "A.D"), ("turn shape", "A.C", (2, 0, 1)), wanted.replace("D1", "A.D"), 0)
        inner = TYPES + " do E (1, D) do try 1 with E (a, C (b, _, _)) -> b | _ -> 2 end end"
        self.look(inner, ("turn shape", "A.C", (1, 0, 2)), inner.replace("C of int * bool * 'a", "C of bool * int * 'a").replace("C (b, _, _)", "C (_, b, _)"), 0)
        self.look(inner, ("turn shape", "A.E", (1, 0)), inner.replace("E of int * t(int)", "E of t(int) * int").replace("E (1, D)", "E (D, 1)").replace("E (a, C (b, _, _))", "E (C (b, _, _), a)"), 0)
        both = TYPES + " do C (1, true, C (2, false, fn z -> C (3, true, z))) end"
        self.look(both, ("turn shape", "A.C", (2, 1, 0)), both.replace("int * bool * 'a", "'a * bool * int").replace(
            "C (1, true, C (2, false, fn z -> C (3, true, z)))", "C (C (fn z -> C (z, true, 3), false, 2), true, 1)"), 0)
        self.look(both, ("turn shape", "A.C", (0, 1, 2)), both, 0)

    def test_makings_within_still_parts(self):
        text = "module M = type t = C of {} | D do C ({}) do match D with C ({}) -> 1 | D -> 2 end end"
        self.look(text.format("(int -> t) * int", "fn u -> C (fn w -> D, ask()), ask()", "_, a"), ("turn shape", "M.C", (1, 0)),
                  text.format("int * (int -> t)", "M1", "a, _").replace("C (M1)", "let q0 = ask() in C (q0, fn u -> let q1 = ask() in C (q1, fn w -> D))"), 2)
        three = "module M = type t = C of {} | D do C ({}) end"
        self.look(three.format("int * (int -> t) * int", "ask(), fn u -> C (ask(), fn w -> D, u / 1), ask()"), ("turn shape", "M.C", (2, 1, 0)),
                  three.format("int * (int -> t) * int", "M1").replace("C (M1)", "let q0 = ask() in let q1 = ask() in C (q1, fn u -> let q2 = ask() in let q3 = u / 1 in C (q3, fn w -> D, q2), q0)"), 4)
        self.look(three.format("int * t", "ask(), C (1, C (ask(), D))"), ("turn shape", "M.C", (1, 0)),
                  three.format("t * int", "M1").replace("C (M1)", "let q0 = ask() in let q1 = (let q2 = (let q3 = ask() in C (D, q3)) in C (q2, 1)) in C (q1, q0)"), 4)

    def test_constructors_of_like_names(self):
        text = "module A = type t = C of int * bool do C (1, true) end module B = type u = C of int * bool do (C (1, true), A.C (2, false)) do fn x -> match x with (C (1, a), A.C (2, b)) -> (a, b) | _ -> (true, true) end end"
        self.look(text, ("turn shape", "A.C", (1, 0)), text.replace("t = C of int * bool do C (1, true)", "t = C of bool * int do C (true, 1)").replace("A.C (2, false)", "A.C (false, 2)").replace("A.C (2, b)", "A.C (b, 2)"), 0)
        self.look(text, ("turn shape", "B.C", (1, 0)), text.replace("u = C of int * bool do (C (1, true)", "u = C of bool * int do (C (true, 1)").replace("(C (1, a)", "(C (a, 1)"), 0)

    def test_names_that_stand_somewhere(self):
        one, two = "type t = C of int * int", "type t = C of int * int"
        for more, name in [("", "q0"), ("let q0 = 1", "q1"), ("type q0 = Q", "q1"), ("type v('q0) = V of 'q0", "q1"), ("rec q0 q1 = 1", "q2"), ("do fn q0 -> 1", "q1"),
                           ("do match 1 with q0 -> 2 end", "q1"), ("do let q1 = 1 in q1", "q0")]:
            self.look(f"module M = {one} {more} do C (ask(), 1) end", ("turn shape", "M.C", (1, 0)), f"module M = {two} {more} do let {name} = ask() in C (1, {name}) end", 1)
        shown = f"module A show q0 = let q0 = 1 end module M = {one} do C (A.q0 + 1, 1) end"
        self.look(shown, ("turn shape", "M.C", (1, 0)), shown.replace("C (A.q0 + 1, 1)", "let q1 = A.q0 + 1 in C (1, q1)"), 1)

    def test_refused(self):
        turn = ("turn shape", "M.E", (1, 0))
        for text, place in [
                ("do fn p -> E p", (0, 1, 0)), ("do (E (1, true), fn p -> E p)", (0, 1, 1, 0)), ("do try 1 with E x -> 2 end", (0, 1)), ("do try 1 with E (x, y) -> 2 | E z -> 3 end", (0, 1)),
                ("do try (raise (E (let p = 1 in (p, true)))) with E x -> 2 end", (0, 1)), ("do try (try 1 with E q -> 1 end) with E _ -> 2 end", (0, 1, 0)),
                ("do fn p -> (E (1, true), match (1, p) with (_, E v) -> 3 | _ -> 4 end)", (0, 1, 0, 1)), ("do try (raise (E (let p = 1 in (p, true)))) with E _ -> 2 end", (0, 1, 0, 0)),
                ("do match Some (E (1, true)) with Some (E u) -> 1 | _ -> 2 end", (0, 1))]:
            self.look(f"module M = exception E of int * bool {text} end", turn, place, 0)
        self.look("module M = exception E of int * bool exception G of int do try 1 with G x -> 2 | E _ -> 3 end do fn p -> G p end", turn,
                  "module M = exception E of bool * int exception G of int do try 1 with G x -> 2 | E _ -> 3 end do fn p -> G p end", 0)

    def test_errors(self):
        program = parse(TYPES + " do 1 end")
        change = ("turn shape", "A.C", (1, 0, 2))
        for call in (told_shape, turned_done):
            look_at_errors(self, call, [("program", program), ("change", change)], [("program", InvalidProgram, bad_for(is_program)), ("change", InvalidChange, ODD + [("turn shape", "A.C", (1, 1))])])
            bad = parse("module A = do 1 + true end")
            self.assertIs(type(error_of(call, bad, change)), NotAccepted)
            self.assertIs(type(error_of(call, bad, 1)), InvalidChange)
            for name, order in [("A.C", (1, 0)), ("A.C", (0, 1, 2, 3)), ("A.D", (1, 0)), ("A.S", (1, 0)), ("A.F", (1, 0)), ("C", (1, 0, 2)), ("Cons", (1, 0)), ("B.C", (1, 0, 2)), ("A.Q", (1, 0)), ("A.E", (0, 1, 2)), ("Some", (1, 0))]:
                error = error_of(call, program, ("turn shape", name, order))
                self.assertEqual((type(error), error.value), (InvalidConstructor, name))

    def test_too_large(self):
        asks = " ".join("do C (ask(), ask())" for _ in range(19))
        ways = parse(f"module M = type t = C of int * int {asks} end")
        for more, error in [(0, None), (1, TooMany)]:
            spare = 600 - parts_of(ways) - 19 * 4 - 2 + more
            full = ways + (("module", "Z", None, (("do", padded(spare)),)),)
            self.assertEqual(parts_of(full), 600 - 19 * 4 + more)
            found = error_of(told_shape, full, ("turn shape", "M.C", (1, 0)))
            self.assertIs(type(found), error or type(None))
            self.assertIsNone(turned_done(full, ("turn shape", "M.C", (1, 0))))
        self.assertEqual((found.what, found.limit), ("parts", 600))
        deep = ("prim", "ask", ())
        for _ in range(36):
            deep = ("prim", "add", (deep, ("int", 1)))
        program = (("module", "M", None, (("type", "t", (), (("C", ("tuple", (("int",), ("int",)))),)), ("do", ("con", "C", ("tuple", (("int", 1), deep)))))),)
        self.assertEqual(told_shape(program, ("turn shape", "M.C", (1, 0)))[0], "taken")
        for parts in ((deep, deep), (("prim", "ask", ()), ("prim", "add", (("prim", "add", (("int", 1), deep)), deep)))):
            program = (program[0][:3] + ((program[0][3][0], ("do", ("con", "C", ("tuple", parts)))),),)
            if is_accepted(program):
                found = error_of(told_shape, program, ("turn shape", "M.C", (1, 0)))
                self.assertIn(type(found), (TooMany, type(None)))

    def test_random(self):
        taken = 0
        for seed in range(250):
            rand = random.Random(seed)
            program = Typed(seed).program(3, 1, 2)
            if not is_accepted(program) or "'C', ('tuple'" not in repr(program):
                continue
            told = told_shape(program, ("turn shape", "M.C", (1, 0)))
            if told[0] == "taken":
                taken += 1
                self.assertTrue(is_paper(program, told[1], told[2]))
                self.assertIsNone(parting_run(program, told[1], rand))
                again = told_shape(told[1], ("turn shape", "M.C", (1, 0)))
                self.assertEqual(again[0], "taken")
                if turned_done(program, ("turn shape", "M.C", (1, 0))) is not None:
                    self.assertEqual(again[1], program)
        self.assertGreater(taken, 20)

    def test_all_orders_of_four(self):
        program = parse("module M = type t = C of int * bool * unit * int do C (1, true, (), 4) do fn x -> match x with C (a, b, c, d) -> (a, b, c, d) end end")
        for order in itertools.permutations(range(4)):
            names, values, kinds = [[row[k] for k in order] for row in ("abcd", ["1", "true", "()", "4"], ["int", "bool", "unit", "int"])]
            wanted = parse(f"module M = type t = C of {' * '.join(kinds)} do C ({', '.join(values)}) do fn x -> match x with C ({', '.join(names)}) -> (a, b, c, d) end end")
            self.assertEqual(turned_done(program, ("turn shape", "M.C", order)), wanted)


if __name__ == "__main__":
    unittest.main()
