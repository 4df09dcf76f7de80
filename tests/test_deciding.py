"""All changes decided, with papers: [276], [4], [7]."""

import random
import unittest

from changing import some_changes
from checking import ODD, bad_for, error_of, keeps, look_at_errors
from running import parting_run
from test_replaces import BIG
from typed import Typed

from changedsame.bindings import type_at
from changedsame.cases import told_case
from changedsame.checker import checked, is_paper
from changedsame.deciding import decided, is_change, is_taken, taken
from changedsame.errors import InvalidChange, InvalidProgram, NotAccepted
from changedsame.functions import decided_function
from changedsame.infer import is_accepted
from changedsame.moves import decided_move
from changedsame.parser import parse, parse_expr
from changedsame.places import expr_at, places, put_at
from changedsame.plainruns import run_outer
from changedsame.printer import program_text
from changedsame.renames import decided_rename
from changedsame.replaces import decided_straight
from changedsame.shapes import told_shape
from changedsame.trees import is_program

GOOD = [
    ("rename local", (0, 1), 0, "x"), ("rename local", (), 99, "x"), ("rename value", "M.x", "y"), ("rename type", "M.t", "u"), ("rename constructor", "M.C", "D"), ("rename module", "M", "N"),
    ("move", "M.x", "N", 3), ("replace", (0, 0), ("unit",)), ("swap", (0, 0)), ("inline", ()), ("extract", (0, 0), (9,), "x"), ("share", (1,), (2,), "x"), ("drop", (0,)), ("unfold", (0, 0)), ("fold", (0, 0), "f"),
    ("flip", "M.x"), ("swap rules", (0,), 0), ("drop rule", (0,), 0), ("merge rules", (0,), 0), ("split rule", (0,), 0, (0, "M.C"), "C"), ("turn shape", "M.C", (1, 0)),
]

BAD = [
    ("rename local", [0], 0, "x"), ("rename local", (0,), True, "x"), ("rename local", (0,), 0, "X"), ("rename local", (0,), 0, "M.x"), ("rename value", "x", "y"), ("rename value", "M.X", "y"), ("rename value", "M.x", "M.y"),
    ("rename value", "M.x", "let"), ("rename type", "t", "u"), ("rename type", "M.T", "u"), ("rename constructor", "C", "D"), ("rename constructor", "M.C", "d"), ("rename constructor", "M.c", "D"), ("rename module", "m", "N"),
    ("rename module", "M", "N.N"), ("rename module", "M"), ("move", "M.x", "n", 3), ("move", "M.x", "N", -1), ("move", "x", "N", 0), ("move", "M.x", "N", False), ("replace", (0, 0), ("int", True)), ("replace", (0, 0)), ("swap", (True,)), ("swap",),
    ("swap", (0,), 1), ("extract", (0,), "x"), ("extract", (0,), (0,), "X"), ("fold", (0,), "F"), ("fold", (0,)), ("flip", "x"), ("flip", "M.C"), ("swap rules", (0,)), ("split rule", (0,), 0, (), "c"), ("turn shape", "C", (1, 0)),
    ("turn shape", "M.C", (1, 1)), ("turn shape", "M.C", (0,)), ("renames", "M.x", "y"), ["swap", (0,)], ("Swap", (0,)), ("drop", (-1,)), ("inline", None), ("share", (0,), [0], "x"), ("unfold", "M.x"),
]


class TestIsChange(unittest.TestCase):
    def test_what_is_one(self):
        for change in GOOD:
            self.assertIs(keeps(self, is_change, change), True, change)
        for value in ODD + BAD:
            self.assertIs(is_change(value), False, value)
        for change in GOOD:
            self.assertIs(is_change(change + (0,)), False)
            self.assertIs(is_change(change[:-1]), False)
            self.assertIs(is_change(list(change)), False)


class TestDecided(unittest.TestCase):
    def look(self, text, change, wanted):
        """wanted: a text, or a reason's first word, or a whole reason."""
        program = parse(text)
        self.assertTrue(is_accepted(program), text)
        told = keeps(self, decided, program, change)
        self.assertIs(keeps(self, is_taken, program, change), told[0] == "taken")
        self.assertEqual(keeps(self, taken, program, change), told[1] if told[0] == "taken" else None)
        if isinstance(wanted, str) and " " in wanted:
            self.assertEqual((told[0], len(told)), ("taken", 3), (text, change, told))
            self.assertEqual(program_text(told[1]), program_text(parse(wanted)))
            self.assertIsInstance(told[2], list)
            self.assertEqual(checked(program, told[2]), told[1])
            self.assertIsNone(parting_run(program, told[1], random.Random(6)))
        else:
            self.assertEqual(told[0], "refused", (text, change))
            self.assertEqual(told[1] if isinstance(wanted, tuple) else told[1][0], wanted)

    def test_stage_six(self):
        self.look("module M = let x = 1 do x end", ("rename value", "M.x", "y"), "module M = let y = 1 do y end")
        self.look("module M = do fn x -> x end", ("rename local", (0, 0), 0, "y"), "module M = do fn y -> y end")
        self.look("module M = type t = C do C end", ("rename type", "M.t", "u"), "module M = type u = C do C end")
        self.look("module M = exception E do E end", ("rename constructor", "M.E", "F"), "module M = exception F do F end")
        self.look("module M = exception E do E end", ("rename module", "M", "N"), "module N = exception E do E end")
        self.look("module M = let x = 1 let y = 2 end", ("move", "M.x", "M", 1), "module M = let y = 2 let x = 1 end")
        self.look("module M = let x = 1 do x end", ("move", "M.x", "M", 1), ("fault", "not bound", "x"))
        self.look("module M = let x = 1 let y = 1 end", ("rename value", "M.x", "y"), ("fault", "twice", "y"))
        self.look("module M = let x = 1 do fn y -> x end", ("rename value", "M.x", "y"), "clash")
        for change in [("rename value", "M.z", "y"), ("rename local", (0, 1), 0, "y"), ("rename type", "M.x", "y"), ("rename constructor", "M.E", "F"), ("rename module", "N", "K"), ("move", "M.x", "M", 2), ("move", "M.x", "N", 0)]:
            self.look("module M = let x = 1 do x end", change, ("place",))

    def test_stage_seven(self):
        for text, change, wanted in [
                ("do fn x -> x", ("replace", (0, 0), parse_expr("fn y -> y")), "do fn y -> y"), ("do ask() + 0", ("replace", (0, 0), parse_expr("ask()")), "do ask()"), ("do ask()", ("replace", (0, 0), parse_expr("1")), "parts"),
                ("do ask()", ("replace", (0, 0), parse_expr("z")), ("place",)), ("do ask()", ("replace", (0, 0), parse_expr("1 + true")), ("untyped", 0)), ("do ask()", ("swap", (0, 0)), ("place",)), ("do ask()", ("swap", (0, 9)), ("place",)),
                ("do let x = 1 in let y = ask() in (x, y)", ("swap", (0, 0)), "do let y = ask() in let x = 1 in (x, y)"), ("do let y = ask() in let x = 1 in (x, y, x)", ("swap", (0, 0)), "do let x = 1 in let y = ask() in (x, y, x)"),
                ("do let x = (fn x -> x) in let y = (fn y -> y) in (x y, fn y -> x y)", ("swap", (0, 0)), "do let y = (fn y -> y) in let x = (fn x -> x) in (x y, fn y -> x y)"),
                ("do let x = 1 in let x = ask() in 5", ("swap", (0, 0)), "do let x = ask() in let x = 1 in 5"), ("let x = 9 do let x = (x, 1) in let y = ask() in (y, x)", ("swap", (0, 1)), "let x = 9 do let y = ask() in let x = (x, 1) in (y, x)"),
                ("do let x = ask() in let y = ask() in (x + y, 1)", ("swap", (0, 0)), "beyond"), ("do let x = ask() in let y = ask() in x + y", ("swap", (0, 0)), "do let y = ask() in let x = ask() in x + y"),
                ("do (1; (ask(); z))".replace("z", "2"), ("swap", (0, 0)), "do ask(); (1; 2)"), ("do (ask(); ((fn z -> z); fn z0 -> z0))", ("swap", (0, 0)), "do (fn z -> z); (ask(); fn z0 -> z0)"), ("let z = 3 do (ask(); (z; z))", ("swap", (0, 1)), "let z = 3 do z; (ask(); z)"),
                ("let z = 3 do (z; (ask(); z))", ("swap", (0, 1)), "let z = 3 do ask(); (z; z)"), ("do let x = fn y -> y in (x 1, x true)", ("inline", (0, 0)), "do ((fn y -> y) 1, (fn y -> y) true)"), ("do let x = ask() in (x, 1)", ("inline", (0, 0)), "do (ask(), 1)"),
                ("let x = 5 do let x = x + 1 in (x, 2)", ("inline", (0, 1)), "let x = 5 do (x + 1, 2)"), ("let z = 5 do let x = z / 2 in (x, fn x -> z)", ("inline", (0, 1)), "let z = 5 do (z / 2, fn x -> z)"), ("let x = 5 do let x = x / 1 in (x, fn z -> z)", ("inline", (0, 1)), "let x = 5 do (x / 1, fn z -> z)"),
                ("do let x = ask() in x", ("inline", (0, 0)), "do ask()  "), ("do let x = ask() in (fn y -> y, x)", ("inline", (0, 0)), "do (fn y -> y, ask())"), ("do let x = 1 in ask()", ("drop", (0, 0)), "do ask()  "), ("do (1; ask())", ("drop", (0, 0)), "do ask()  "),
                ("let z = 1 do (fn q -> q; z)".replace("fn q -> q;", "(fn q -> q);"), ("drop", (0, 1)), "let z = 1 do z"), ("do (ref(1); ask())", ("drop", (0, 0)), "do ask()  "), ("do let x = ask() in 1", ("drop", (0, 0)), "parts"),
                ("do (1, (1, 2))", ("extract", (0, 0), (0, 0, 1), "x"), "do let x = (1, 2) in (1, x)"), ("do (ask(), 2)", ("extract", (0, 0), (0, 0, 0), "x"), "do let x = ask() in (x, 2)"), ("do ask() - ask()", ("extract", (0, 0), (0, 0, 1), "x"), "parts"), ("do ask() + ask()", ("extract", (0, 0), (0, 0, 1), "x"), "do let x = ask() in ask() + x"),
                ("do (1, fn q -> 1)", ("share", (0, 0), (0, 0, 0), "x"), "do let x = 1 in (x, fn q -> x)"), ("let r = ref(1) do tell(!r + !r)", ("share", (0, 1), (0, 1, 0, 0), "x"), "let r = ref(1) do let x = !r in tell(x + x)")]:
            self.look(f"module M = {text} end", change, f"module M = {wanted} end" if isinstance(wanted, str) and " " in wanted else wanted)

    def test_stage_seven_second_half(self):
        for text, change, wanted in [
                ("do (fn x -> x) 1", ("unfold", (0, 0)), "do let x = 1 in x"), ("let f = fn x -> x do f 1", ("unfold", (0, 1)), "let f = fn x -> x do let x = 1 in x"), ("rec f x = f x do f 1", ("unfold", (0, 0, 0)), "rec f x = let x = x in f x do f 1"),
                ("do let y = 1 in let f = fn x -> x + y in fn y -> f 2", ("unfold", (0, 0, 1, 1, 0)), "clash"), ("do fn a -> fn b -> fn c -> a + b + c", ("fold", (0, 0, 0, 0, 0), "f"), "do fn a -> fn b -> fn c -> let f = fn a -> fn b -> fn c -> a + b + c in f a b c"),
                ("do ask()", ("fold", (0, 0), "f"), "do let f = fn x -> ask() in f ()"), ("let f = 1 do fn a -> f + a", ("fold", (0, 1, 0), "f"), "let f = 1 do fn a -> let f = fn a -> f + a in f a"), ("do fn a -> a", ("fold", (0, 0, 0), "a"), "clash"),
                ("let i = fn x -> x do (i 1, i true)", ("fold", (0, 0), "f"), ("untyped", 1)), ("let f = fn x -> fn y -> (x, y) do f 1 (ask())", ("flip", "M.f"), "let f = fn y -> fn x -> (x, y) do f (ask()) 1"),
                ("let f = fn x -> fn y -> (x, y) do f (f (ask()) (ask())) (f 1 (ask()))", ("flip", "M.f"), "let f = fn y -> fn x -> (x, y) do let v = (let v = ask() in f (ask()) v) in f (f (ask()) 1) v"),
                ("let w = 1 let v = 2 let f = fn x -> fn y -> (x, y) do f (v + w) (w + v)", ("flip", "M.f"), "let w = 1 let v = 2 let f = fn y -> fn x -> (x, y) do let v0 = v + w in f (w + v) v0"), ("let f = fn x -> fn y -> x do f", ("flip", "M.f"), ("use", (0, 1))),
                ("let f = fn x -> x do f", ("flip", "M.f"), ("place",)), ("do ask()", ("unfold", (0, 0)), ("place",)), ("do ask()", ("fold", (0, 1), "f"), ("place",))]:
            self.look(f"module M = {text} end", change, f"module M = {wanted} end" if isinstance(wanted, str) and " " in wanted else wanted)
        both = "module A = let h = 1 let f = fn x -> x + h end module B = do A.f (ask()) end"
        self.look(both, ("unfold", (1, 0)), both.replace("do A.f (ask())", "do let x = ask() in x + A.h"))

    def test_stage_eight(self):
        for text, change, wanted in [
                ("do fn x -> match x with Nil -> 1 | Cons _ -> 2 end", ("swap rules", (0, 0, 0), 0), "do fn x -> match x with Cons _ -> 2 | Nil -> 1 end"), ("do fn x -> match x with Nil -> 1 | _ -> 2 end", ("swap rules", (0, 0, 0), 0), "value"),
                ("do fn x -> match x with Nil -> 1 | _ -> 2 - 1 end", ("drop rule", (0, 0, 0), 0), "do fn x -> match x with _ -> 2 - 1 end"), ("do fn x -> match x with _ -> 1 end", ("split rule", (0, 0, 0), 0, (), "Nil"), "do fn x -> match x with Nil -> 1 | _ -> 1 end"),
                ("do fn x -> match x with Some _ -> 1 | None -> 1 end", ("merge rules", (0, 0, 0), 0), "do fn x -> match x with _ -> 1 end"), ("do fn x -> match x with _ -> 1 end", ("split rule", (0, 0, 0), 0, (), "Q"), ("clash", (0, 0, 0))),
                ("do fn x -> match x with _ -> 1 end", ("drop rule", (0, 0, 0), 0), ("place",)), ("do fn x -> match x with _ -> 1 end", ("split rule", (0, 0, 0), 0, (0,), "Nil"), ("place",)), ("do 1", ("swap rules", (0, 0), 0), ("place",)),
                ("do fn x -> match x with Nil -> 1 | _ -> raise NoMore end", ("drop rule", (0, 0, 0), 0), ("beyond", (0, 0, 0), 0, 0)), ("exception E of int * bool do E (ask(), true)", ("turn shape", "M.E", (1, 0)), "exception E of bool * int do let q0 = ask() in E (true, q0)"),
                ("exception E of int * bool do fn p -> E p", ("turn shape", "M.E", (1, 0)), ("clash", (0, 1, 0))), ("exception E of int * bool do 1", ("turn shape", "M.E", (1, 0, 2)), ("place",)), ("do 1", ("turn shape", "M.E", (1, 0)), ("place",))]:
            self.look(f"module M = {text} end", change, f"module M = {wanted} end" if isinstance(wanted, str) and " " in wanted else wanted)
        eight = " | ".join(["_ -> 1"] * 8)
        self.look(f"module M = do fn x -> match x with {eight} end end", ("split rule", (0, 0, 0), 0, (), "Nil"), ("place",))

    def test_limits(self):
        program = (("module", "M", None, (("do", BIG), ("do", ("unit",)))),)
        for change in [("replace", (0, 1), BIG), ("fold", (0, 1, 0), "f")]:
            self.assertEqual(decided(program, change), ("refused", ("place",)))
        big = ("fn", "u", ("tuple", (BIG[1][0], ("unit",))))
        uses = ("tuple", (("var", "x"),) * 4)
        for text in ("let x = {} in let y = ask() in {}", "let y = ask() in let x = {} in {}"):
            rest = ("tuple", (uses, uses, ("var", "y")))
            inner = ("let", "y", ("prim", "ask", ()), rest)
            expr = ("let", "x", big, inner) if text[:5] == "let x" else ("let", "y", ("prim", "ask", ()), ("let", "x", big, rest))
            program = (("module", "M", None, (("do", expr),)),)
            told = decided(program, ("swap", (0, 0)))
            self.assertEqual(told[0], "taken")
            self.assertTrue(is_paper(program, told[1], told[2]))
        for many, word in ((10, "taken"), (48, "taken"), (51, "refused")):
            rows = ["module M = let f = fn x -> fn y -> (x, y) " + " ".join(["do f (ask()) (ask())"] * min(many, 19)) + " end"]
            left = many - min(many, 19)
            for title in ("N", "O"):
                rows.append(f"module {title} = " + " ".join("do M.f (ask()) (ask())" for _ in range(min(left, 20))) + " end")
                left -= min(left, 20)
            program = parse(" ".join(rows))
            told = decided(program, ("flip", "M.f"))
            self.assertEqual(decided_function(program, ("flip", "M.f"))[0], "taken")
            self.assertEqual(told[0], word)
            if word == "refused":
                self.assertEqual(told[1], ("place",))

    def test_errors(self):
        program = parse("module M = do 1 end")
        for call in (decided, is_taken, taken):
            look_at_errors(self, call, [("program", program), ("change", ("swap", (0, 0)))], [("program", InvalidProgram, bad_for(is_program)), ("change", InvalidChange, ODD + BAD)])
            bad = parse("module M = do 1 + true end")
            self.assertIs(type(error_of(call, bad, ("swap", (0, 0)))), NotAccepted)
            self.assertIs(type(error_of(call, bad, None)), InvalidChange)
        look_at_errors(self, is_change, [("value", 1)], [])


class TestRandom(unittest.TestCase):
    def plainly(self, program, change):
        """What the functions of the stages tell, None if the change doesn't fit."""
        word = change[0]
        tell = {"rename": decided_rename, "move": decided_move, "unfold": decided_function, "fold": decided_function, "flip": decided_function, "turn": told_shape}.get(word.split()[0])
        if tell is None:
            tell = told_case if word.split()[-1] in ("rule", "rules") else decided_straight
        error = error_of(tell, program, change)
        return None if error else tell(program, change)[:2]

    def test_against_the_stages(self):
        seen = {}
        for seed in range(110):
            rand = random.Random(seed)
            program = Typed(seed).program(rand.choice([2, 3, 4]), rand.choice([1, 2, 3]), 2)
            if not is_accepted(program):
                continue
            for change in some_changes(program, rand, 14):
                told = decided(program, change)
                plain = self.plainly(program, change)
                if plain is None:
                    self.assertEqual(told, ("refused", ("place",)))
                elif told != ("refused", ("place",)):
                    self.assertEqual(told[:2] if told[0] == "taken" else (told[0], told[1][0]), plain if told[0] == "taken" else (plain[0], plain[1][0]))
                else:
                    self.fail((seed, change))
                if told[0] == "taken":
                    self.assertEqual(checked(program, told[2]), told[1])
                    if change[0][:6] != "rename" or "constructor" not in change[0]:
                        self.assertIsNone(parting_run(program, told[1], rand, tries=1) if change[:2] and change[0] not in ("rename module", "rename constructor") else None, (seed, change))
                elif told[1][0] in ("parts", "value"):
                    near, far, inputs = told[1][-1]
                    self.assertTrue(is_accepted(near) and is_accepted(far))
                    self.assertNotEqual(run_outer(near, inputs, 2000), run_outer(far, inputs, 2000))
                key = (change[0], told[0])
                seen[key] = seen.get(key, 0) + 1
        for word in ("inline", "drop", "fold", "unfold", "extract", "share", "move", "rename value", "rename local", "swap rules", "drop rule", "merge rules", "turn shape", "rename module"):
            self.assertGreater(seen.get((word, "taken"), 0), 0, word)


FLIPPED = [
    ("let", "flp", parse_expr("fn x -> fn y -> x - y")), ("let", "flp", parse_expr("fn x -> fn y -> tell(y); x + ask()")),
    ("rec", (("flp", "x", parse_expr("fn y -> if x < 1 then y else flp (x / 2) (y + 1)")),)), ("rec", (("flp", "x", parse_expr("fn y -> if x < 1 then y - x else flp (x - y) y")),)),
]


class TestFlips(unittest.TestCase):
    def with_uses(self, program, rand):
        """The program with some of its numbers as arguments of a function of two, which it gets."""
        title, shows, decls = program[0][1:]
        told = (("module", title, None if shows is None else shows + ("flp",), (rand.choice(FLIPPED),) + decls),) + program[1:]
        for _ in range(12):
            place = rand.choice(places(told))
            if place[:2] == (0, 0) or type_at(told, place) != ("int",):
                continue
            part = expr_at(told, place)
            args = [part, rand.choice([("int", 3), ("prim", "ask", ()), part, ("prim", "add", (part, ("int", 1)))])]
            rand.shuffle(args)
            use = ("call", ("call", ("var", "flp" if place[0] == 0 else "M.flp"), args[0]), args[1])
            if error_of(put_at, told, place, use) is None and is_accepted(put_at(told, place, use)):
                told = put_at(told, place, use)
        return told

    def test_random(self):
        seen = {}
        for seed in range(60):
            rand = random.Random(seed)
            program = Typed(seed).program(2, rand.choice([1, 2]), 3)
            if not is_accepted(program) or len(program[0][3]) == 20:
                continue
            program = self.with_uses(program, rand)
            told = decided(program, ("flip", "M.flp"))
            self.assertEqual(told[:2], decided_function(program, ("flip", "M.flp")))
            self.assertEqual(checked(program, told[2]), told[1])
            self.assertIsNone(parting_run(program, told[1], rand))
            seen[len(told[2])] = seen.get(len(told[2]), 0) + 1
        self.assertGreater(min(seen.get(many, 0) for many in (1, 5)), 3, seen)


if __name__ == "__main__":
    unittest.main()
