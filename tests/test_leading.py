"""Builds, middles, and changes that are led over one another: [282], [283]."""

import random
import unittest

from changing import some_changes
from checking import ODD, bad_for, error_of, keeps, look_at_errors
from typed import Typed

from changedsame.bindings import binders
from changedsame.deciding import is_change, taken
from changedsame.errors import InvalidChange, InvalidProgram, NotAccepted
from changedsame.infer import is_accepted
from changedsame.leading import are_like_built, led, middle_of
from changedsame.parser import parse, parse_expr
from changedsame.places import places, put_at
from changedsame.renames import renamed_plain
from changedsame.trees import is_program


class TestBuilds(unittest.TestCase):
    def look(self, one, other, is_so):
        one, other = parse(f"module M {one} end"), parse(f"module M {other} end")
        self.assertIs(keeps(self, are_like_built, one, other), is_so, (one, other))
        self.assertIs(are_like_built(other, one), is_so)

    def test_what_is_done_away_with(self):
        for one, other in [
                ("= let x = 1", "= let y = 1"), ("= do M.x end module N =", "= do x end module K ="), ("show x =", "show Y ="), ("= type t('a, 'b) = C of 'a | D", "= type u('b, 'c) = D of 'c | E"), ("= type t = C of K.u", "= type t = C of u"),
                ("= exception E of list(int)", "= exception F of option(int)"), ("= rec f x = x and g y = f", "= rec a b = c and d e = q"), ("= do fn x -> x", "= do fn y -> z"), ("= do let x = 1 in x", "= do let y = 1 in Q.z"),
                ("= do match x with (Some y, _) -> y | z -> 1 end", "= do match q with (Cons a, _) -> b | c -> 1 end"), ("= do try Nil with A.B -> C d end", "= do try E with F -> G.H i end"), ("= do rec f x = x in f", "= do rec g g = y in z")]:
            self.look(one, other, True)

    def test_what_stays(self):
        for one, other in [
                ("= let x = 1", "= let x = 2"), ("= let x = 1", "= do 1"), ("show x =", "show x, y ="), ("show () =", "="), ("show () =", "show x ="), ("= type t = C", "= type t('a) = C"), ("= type t = C", "= type t = C | D"), ("= type t = C of int", "= type t = C"),
                ("= type t = C of int", "= type t = C of bool"), ("= type t = C of list(int)", "= type t = C of list"), ("= type t = C of int * bool", "= type t = C of bool * int"), ("= type t('a) = C of 'a", "= type t('a) = C of t"), ("= exception E", "= exception E of int"),
                ("= do true", "= do false"), ("= do x + y", "= do x - y"), ("= do (x, y)", "= do (x, y, z)"), ("= do Some x", "= do None"), ("= do match x with 1 -> 2 end", "= do match x with 2 -> 2 end"), ("= do match x with y -> 2 end", "= do match x with _ -> 2 end"),
                ("= do match x with Some _ -> 2 end", "= do match x with Some -> 2 end"), ("= do match x with 1 -> 2 end", "= do try x with 1 -> 2 end"), ("= do match x with (a, b) -> 2 end", "= do match x with (a, b, c) -> 2 end"), ("= rec f x = x", "= rec f x = x and g y = y"),
                ("= do x; y", "= do x y"), ("= do 1", "= do 1 do 1"), ("= do let x = 1 in 2", "= do 1; 2"), ("= do raise x", "= do fn x -> x"), ("= end module N =", "="), ("= do match x with true -> 2 end", "= do match x with false -> 2 end"), ("= do ref(1)", "= do tell(1)")]:
            self.look(one, other, False)

    def test_renamed_programs(self):
        for seed in range(25):
            program = Typed(seed).program(4, 2, 2)
            if is_program(program) and is_accepted(program):
                other = program
                for binder in binders(program)[::4]:
                    if binder[0] == "local":
                        other = renamed_plain(other, ("rename local", binder[1], binder[2], "zz"))
                if is_program(other):
                    self.assertTrue(are_like_built(program, other))
                    self.assertEqual(places(program), places(other))

    def test_errors(self):
        program = parse("module M = do z end")
        for call in (are_like_built, middle_of):
            look_at_errors(self, call, [("program", program), ("other", program)], [("program", InvalidProgram, bad_for(is_program)), ("other", InvalidProgram, bad_for(is_program))])


class TestMiddles(unittest.TestCase):
    def look(self, one, other, wanted):
        one, other = parse(one), parse(other)
        self.assertEqual(keeps(self, middle_of, one, other), wanted, (one, other))
        self.assertEqual(middle_of(other, one), wanted)

    def test_each_kind(self):
        for one, other, wanted in [
                ("let x = 1", "let x = 1", None), ("let x = 1", "let x = 2", (0, 0)), ("let x = 1", "let y = 1", (0, 0)), ("let x = 1 do 2", "let x = 1 do 3", (0, 1)), ("do (1, 2)", "do (1, 3)", (0, 0, 1)), ("do (1, 2)", "do (2, 3)", (0, 0)),
                ("do (1, 2)", "do (1, 2, 3)", (0, 0)), ("do fn x -> x + 1", "do fn x -> x + 2", (0, 0, 0, 1)), ("do fn x -> x", "do fn y -> x", (0, 0)), ("do x + 1", "do x - 1", (0, 0)), ("rec f x = 1 and g y = 2", "rec f x = 1 and g y = 3", (0, 0, 1)),
                ("rec f x = 1 and g y = 2", "rec f x = 2 and g y = 3", (0, 0)), ("rec f x = 1", "rec f y = 1", (0, 0)), ("rec f x = 1", "rec f x = 1 and g y = 1", (0, 0)), ("type t = A", "type t = B", (0, 0)), ("type t = A", "let x = 1", (0, 0)), ("do 1", "let x = 1", (0, 0)),
                ("do 1 do 2", "do 2 do 1", (0,)), ("do 1 do 2", "do 1", (0,)), ("do 1 do 2", "do 3 do 2", (0, 0)), ("do match x with 1 -> 2 | _ -> 3 end", "do match x with 1 -> 2 | _ -> 4 end", (0, 0, 2)), ("do match x with 1 -> 2 end", "do match x with 2 -> 2 end", (0, 0)),
                ("do let x = (1, 2) in x", "do let x = (1, 3) in x", (0, 0, 0, 1)), ("do Some (1, 2)", "do Some (1, 4)", (0, 0, 0, 1)), ("do rec f x = 1 in 2", "do rec f x = 1 in 3", (0, 0, 1)), ("do ((1, 2), 3)", "do ((3, 4), 3)", (0, 0, 0)), ("let x = (1, 2)", "let y = (1, 3)", (0, 0)),
                ("let x = (1, 2)", "do (1, 3)", (0, 0)), ("rec f x = (1, 2)", "rec f y = (1, 3)", (0, 0)), ("rec f x = (1, 2)", "rec g x = (1, 3)", (0, 0)), ("rec f x = (1, 2) and g y = 1", "rec f x = (1, 3) and g y = 1", (0, 0, 0, 1)),
                ("do let x = (1, 2) in 3", "do let y = (1, 4) in 3", (0, 0)), ("do rec f x = (1, 2) in 3", "do rec f y = (1, 4) in 3", (0, 0)), ("do match (1, 2) with x -> 3 end", "do match (1, 4) with _ -> 3 end", (0, 0)), ("do Some (1, 2)", "do Cons (1, 3)", (0, 0))]:
            self.look(f"module M = {one} end", f"module M = {other} end", wanted)
        for one, other, wanted in [
                ("module M = do 1 end", "module N = do 1 end", (0,)), ("module M = do 1 end", "module N = do 2 end", (0,)), ("module M = do 1 end", "module M show () = do 1 end", (0,)), ("module M = end module N = do 1 end", "module M = end module N = do 2 end", (1, 0)),
                ("module M = end module N = end", "module K = end module L = end", ()), ("module M = end", "module M = end module N = end", ()), ("module M = do 1 end module N = do 1 end", "module M = do 2 end module N = do 2 end", ())]:
            self.look(one, other, wanted)

    def test_of_expressions_that_are_put(self):
        for seed in range(25):
            rand = random.Random(seed)
            program = Typed(seed).program(4, 2, 2)
            if not is_program(program):
                continue
            for place in rand.sample(places(program), 3):
                other = put_at(program, place, ("con", "Zed", None))
                self.assertEqual(middle_of(program, other), place)


LAYERED = ("module A show C, f = type t = C of int * int | D let k = 1 let f = fn x -> x + k end "
           "module B = let h = 2 rec g y = A.f y do match A.C (1, h) with A.C (a, b) -> g a + b | _ -> 3 end do fn u -> let w = u in (w, h, A.D) end")


class TestLed(unittest.TestCase):
    def look(self, change, other, wanted, text=LAYERED):
        text = text.replace("show C, f", "")
        program = parse(text)
        self.assertIsNotNone(taken(program, other), other)
        self.assertIsNotNone(taken(program, change), change)
        self.assertEqual(keeps(self, led, program, change, other), wanted, (change, other))

    def test_over_renames(self):
        for change, other, wanted in [
                (("rename value", "A.k", "z"), ("rename value", "A.k", "y"), ("rename value", "A.y", "z")), (("rename value", "A.k", "z"), ("rename module", "A", "Q"), ("rename value", "Q.k", "z")), (("rename module", "A", "R"), ("rename module", "A", "Q"), ("rename module", "Q", "R")),
                (("rename module", "B", "R"), ("rename module", "A", "Q"), ("rename module", "B", "R")), (("rename type", "A.t", "v"), ("rename type", "A.t", "w"), ("rename type", "A.w", "v")), (("rename type", "A.t", "v"), ("rename module", "A", "Q"), ("rename type", "Q.t", "v")),
                (("rename constructor", "A.C", "E"), ("rename constructor", "A.C", "F"), ("rename constructor", "A.F", "E")), (("move", "A.k", "B", 0), ("rename module", "B", "Q"), None), (("move", "B.h", "A", 3), ("rename module", "A", "Q"), ("move", "B.h", "Q", 3)),
                (("move", "B.h", "A", 3), ("rename value", "B.h", "q"), ("move", "B.q", "A", 3)), (("turn shape", "A.C", (1, 0)), ("rename constructor", "A.C", "F"), ("turn shape", "A.F", (1, 0))), (("turn shape", "A.C", (1, 0)), ("rename module", "A", "Q"), ("turn shape", "Q.C", (1, 0))),
                (("rename local", (1, 3), 0, "z"), ("rename local", (1, 3), 0, "y"), ("rename local", (1, 3), 0, "z")), (("inline", (1, 3, 0)), ("rename value", "B.h", "y"), ("inline", (1, 3, 0))), (("unfold", (1, 1, 0)), ("rename value", "A.f", "y"), ("unfold", (1, 1, 0))),
                (("split rule", (1, 2), 1, (), "A.D"), ("rename constructor", "A.D", "E"), ("split rule", (1, 2), 1, (), "A.E")), (("split rule", (1, 2), 1, (), "A.D"), ("rename module", "A", "Q"), ("split rule", (1, 2), 1, (), "Q.D")),
                (("fold", (1, 0), "z"), ("rename value", "B.h", "z"), ("fold", (1, 0), "z"))]:
            if wanted is not None:
                self.look(change, other, wanted)

    def test_constructors_as_they_are_written(self):
        text = "module M = type t = A | B of option(t) do fn x -> match x with B (Some _) -> 1 | _ -> 2 end end"
        self.look(("split rule", (0, 1, 0), 0, ("B", "Some"), "A"), ("rename constructor", "M.A", "Z"), ("split rule", (0, 1, 0), 0, ("B", "Some"), "Z"), text)
        self.look(("split rule", (0, 1, 0), 0, ("B", "Some"), "A"), ("rename constructor", "M.B", "Z"), ("split rule", (0, 1, 0), 0, ("Z", "Some"), "A"), text)
        self.look(("split rule", (0, 1, 0), 0, ("B", "Some"), "A"), ("rename module", "M", "N"), ("split rule", (0, 1, 0), 0, ("B", "Some"), "A"), text)
        late = "module M = do fn x -> match x with Some _ -> 1 | _ -> 2 end type t = Nil | None end"
        self.look(("split rule", (0, 0, 0), 1, (), "None"), ("rename constructor", "M.None", "Z"), ("split rule", (0, 0, 0), 1, (), "None"), late)
        two = "module A = type t = C of int | D end module B = type u = C of A.t | E do fn x -> match x with C (A.C _) -> 1 | _ -> 2 end end"
        self.look(("split rule", (1, 1, 0), 0, ("C", "A.C"), "D"), ("rename constructor", "A.C", "Z"), None, two) if False else None
        self.look(("split rule", (1, 1, 0), 1, (), "E"), ("rename constructor", "B.E", "Z"), ("split rule", (1, 1, 0), 1, (), "Z"), two)
        self.look(("split rule", (1, 1, 0), 1, (), "C"), ("rename constructor", "A.C", "Z"), ("split rule", (1, 1, 0), 1, (), "C"), two)
        self.look(("split rule", (1, 1, 0), 1, (), "C"), ("rename constructor", "B.C", "Z"), ("split rule", (1, 1, 0), 1, (), "Z"), two)

    def test_over_moves(self):
        for change, other, wanted in [
                (("rename value", "B.h", "z"), ("move", "B.h", "A", 0), ("rename value", "A.h", "z")), (("rename value", "B.g", "z"), ("move", "B.h", "A", 0), ("rename value", "B.g", "z")), (("inline", (1, 3, 0)), ("move", "B.h", "A", 0), ("inline", (1, 2, 0))),
                (("unfold", (1, 1, 0)), ("move", "B.g", "A", 3), ("unfold", (0, 3, 0))), (("rename local", (1, 1), 0, "z"), ("move", "B.g", "A", 3), ("rename local", (0, 3), 0, "z")), (("rename type", "A.t", "z"), ("move", "A.k", "A", 0), ("rename type", "A.t", "z")),
                (("move", "B.h", "A", 3), ("move", "B.h", "A", 0), ("move", "A.h", "A", 3)), (("rename module", "A", "Q"), ("move", "B.h", "A", 0), ("rename module", "A", "Q")), (("turn shape", "A.C", (1, 0)), ("move", "B.h", "A", 0), ("turn shape", "A.C", (1, 0))),
                (("extract", (1, 3, 0, 1), (1, 3, 0, 1, 0), "z"), ("move", "B.h", "A", 0), ("extract", (1, 2, 0, 1), (1, 2, 0, 1, 0), "z")), (("drop rule", (1, 2), 1), ("move", "B.h", "A", 0), None)]:
            if wanted is not None:
                self.look(change, other, wanted)

    def test_over_changes_within_an_expression(self):
        text = "module M = let k = 1 do (let a = 1 in (a, a), let b = (2, 3) in (b, (let c = 4 in c))) do let d = 5 in d end"
        left, right = (0, 1, 0), (0, 1, 1)
        for change, other, wanted in [
                (("inline", right), ("inline", left), ("inline", right)), (("inline", left), ("inline", right), ("inline", left)), (("inline", left), ("inline", left), None), (("inline", (0, 2)), ("inline", left), ("inline", (0, 2))), (("inline", right + (1, 1)), ("inline", right), None),
                (("inline", right), ("inline", right + (1, 1)), ("inline", right)), (("rename local", right + (1, 1), 0, "z"), ("inline", right), None), (("rename local", right, 0, "z"), ("inline", right + (1, 1)), ("rename local", right, 0, "z")), (("rename value", "M.k", "z"), ("inline", left), ("rename value", "M.k", "z")),
                (("fold", (0, 1), "z"), ("inline", left), ("fold", (0, 1), "z")), (("inline", left), ("fold", (0, 1), "z"), None), (("extract", right, right + (0, 0), "z"), ("inline", right + (1, 1)), ("extract", right, right + (0, 0), "z")), (("extract", (0, 1), left + (0,), "z"), ("inline", left), None),
                (("move", "M.k", "M", 1), ("inline", left), ("move", "M.k", "M", 1)), (("inline", left), ("move", "M.k", "M", 1), ("inline", (0, 0, 0)))]:
            self.look(change, other, wanted, text)

    def test_expressions(self):
        text = "module M = let k = 1 let g = fn y -> y do k + 0 do (let a = 1 in a, 2) end"
        for expr, place, other, wanted in [
                ("k", (0, 2), ("rename value", "M.k", "z"), (("replace", (0, 2), ("var", "z")))), ("0 + k", (0, 2), ("move", "M.g", "M", 0), ("replace", (0, 2), parse_expr("0 + k"))), ("k", (0, 2), ("move", "M.g", "M", 2), ("replace", (0, 1), ("var", "k"))),
                ("(let a = 1 in a, 1 + 1)", (0, 3), ("inline", (0, 3, 0)), None), ("1", (0, 3, 0, 1), ("inline", (0, 3, 0)), None), ("1 + 1", (0, 3, 1), ("inline", (0, 3, 0)), ("replace", (0, 3, 1), parse_expr("1 + 1"))), ("k", (0, 2), ("fold", (0, 2, 0), "z"), None),
                ("k", (0, 2, 0), ("rename module", "M", "N"), ("replace", (0, 2, 0), ("var", "k"))), ("let z = 0 in k + z", (0, 2), ("rename value", "M.k", "z"), None), ("let z = 0 in k", (0, 2), ("rename value", "M.k", "y"), ("replace", (0, 2), parse_expr("let z = 0 in y")))]:
            change = ("replace", place, parse_expr(expr))
            if taken(parse(text), change) is None:
                self.assertIn(expr, ("(let a = 1 in a, 1 + 1)", "1"))
                continue
            self.look(change, other, wanted, text)

    def test_those_that_are_not_taken(self):
        program = parse("module M = let x = 1 do x end")
        good, bad = ("rename value", "M.x", "y"), ("rename value", "M.z", "y")
        for change, other in [(good, bad), (bad, good), (bad, bad), (good, ("move", "M.x", "M", 1))]:
            self.assertIsNone(led(program, change, other))

    def test_errors(self):
        program = parse("module M = let x = 1 do x end")
        good = ("rename value", "M.x", "y")
        look_at_errors(self, led, [("program", program), ("change", good), ("other", good)], [
            ("program", InvalidProgram, bad_for(is_program)), ("change", InvalidChange, bad_for(is_change)), ("other", InvalidChange, bad_for(is_change))])
        bad = parse("module M = do 1 + true end")
        self.assertIs(type(error_of(led, bad, good, good)), NotAccepted)
        self.assertIs(type(error_of(led, bad, good, 1)), InvalidChange)

    def test_random(self):
        seen = {}
        for seed in range(30):
            rand = random.Random(seed)
            program = Typed(seed).program(3, 2, 2)
            if not is_accepted(program):
                continue
            good = [change for change in some_changes(program, rand, 12) if taken(program, change) is not None][:4]
            for change in good:
                for other in good:
                    told = led(program, change, other)
                    seen[told is None] = seen.get(told is None, 0) + 1
                    if told is not None:
                        self.assertTrue(is_change(told))
                        self.assertEqual(told[0], change[0])
                    behind = taken(program, other)
                    if other[0] != "move" and not are_like_built(program, behind) and change[0] in ("inline", "drop", "swap", "unfold"):
                        middle = middle_of(program, behind)
                        self.assertEqual(told is None, change[1][:len(middle)] == middle)
        self.assertGreater(min(seen.values()), 5)


if __name__ == "__main__":
    unittest.main()
