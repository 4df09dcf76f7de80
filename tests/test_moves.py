"""Moves of declarations: [233], [234], [235]."""

import random
import unittest

from checking import ODD, bad_for, error_of, keeps, look_at_errors
from typed import Typed

from changedsame.errors import InvalidChange, InvalidPlace, InvalidProgram, NotBound, Twice, WrongArgument
from changedsame.infer import is_accepted, schemes
from changedsame.moves import decided_move, is_move, moved_plain, place_behind
from changedsame.parser import parse
from changedsame.places import expr_at, places
from changedsame.plainruns import run_plain
from changedsame.printer import program_text
from changedsame.renames import meanings
from changedsame.spots import all_exprs, decls_of
from changedsame.trees import is_program
from changedsame.wholes import resolved

THREE = ("module A show k, C = type t = C of int | D let k = 1 let f = fn x -> match x with C y -> y + k | _ -> 0 end end "
         "module B = type u = U exception E let g = fn x -> (x, A.k, Nil, U) rec odd n = even n and even n = odd (n - A.k) let h = 1 + 2 do odd 4 end "
         "module K show () = let z = fn q -> (B.g q, B.even) do (B.g A.k, B.odd 3) end")


def text_of(program):
    return program_text(program)


class TestFits(unittest.TestCase):
    def test_what_goes_where(self):
        program = parse(THREE)
        for change in [
                ("move", "A.f", "A", 0), ("move", "A.f", "A", 2), ("move", "A.f", "B", 0), ("move", "A.f", "B", 6), ("move", "A.f", "K", 2),
                ("move", "B.odd", "A", 3), ("move", "B.even", "A", 3), ("move", "B.g", "B", 5), ("move", "A.k", "K", 0), ("move", "K.z", "B", 0)]:
            self.assertIs(keeps(self, is_move, program, change), True, change)
        for value in ODD + [
                ("move", "A.f", "A", 3), ("move", "A.f", "B", 7), ("move", "A.f", "K", 3), ("move", "B.h", "A", 0), ("move", "B.h", "B", 0),
                ("move", "A.C", "A", 0), ("move", "A.t", "A", 0), ("move", "f", "A", 0), ("move", "A.q", "A", 0), ("move", "A.f", "Q", 0),
                ("move", "A.f", "A", True), ("move", "A.f", "A", -1), ("move", "A.f", "A", None), ("move", "A.f", "A"), ["move", "A.f", "A", 0],
                ("move", "A.f", "A", 0, 0), ("moves", "A.f", "A", 0), ("move", None, "A", 0), ("move", "A.f", None, 0), ("move", ["A.f"], "A", 0)]:
            self.assertIs(is_move(program, value), False, value)

    def test_written_values_alone(self):
        for text, fits in [
                ("fn x -> 1 + 2", True), ("y", True), ("5", True), ("true", True), ("()", True), ("Nil", True), ("Some (fn x -> x)", True),
                ("(1, Some y, fn x -> x)", True), ("1 + 2", False), ("Some (1 + 2)", False), ("(1, ref(1))", False), ("let a = 1 in a", False),
                ("(1; 2)", False), ("ask()", False), ("if true then 1 else 2", False), ("rec f x = x in f", False), ("(fn x -> x) 1", False)]:
            self.assertIs(is_move(parse(f"module M = let y = 1 let m = {text} end"), ("move", "M.m", "M", 1)), fits, text)

    def test_twenty_declarations(self):
        full = " ".join(f"let a{k} = {k}" for k in range(20))
        program = parse(f"module M = {full} end module N = let x = 1 {' '.join(f'do {k}' for k in range(18))} end")
        self.assertIs(is_move(program, ("move", "M.a3", "M", 19)), True)
        self.assertIs(is_move(program, ("move", "M.a3", "M", 20)), False)
        self.assertIs(is_move(program, ("move", "N.x", "M", 0)), False)
        self.assertIs(is_move(program, ("move", "M.a3", "N", 19)), True)
        self.assertEqual(len(moved_plain(program, ("move", "M.a3", "N", 19))[1][3]), 20)

    def test_forty_names_in_shows(self):
        def program(shows):
            cons = [f"C{k}" for k in range(36)]
            types = " ".join(f"type t{k} = {' | '.join(cons[6 * k:6 * k + 6])}" for k in range(6))
            lets = " ".join(f"let b{k} = {k}" for k in range(4))
            return parse(f"module M {shows} = rec f x = x and g x = x end module N show {', '.join(cons)}, b0, b1, b2 = {types} {lets} end")

        self.assertIs(is_move(program("show f"), ("move", "M.f", "N", 0)), True)
        self.assertIs(is_move(program("show ()"), ("move", "M.f", "N", 0)), True)
        self.assertIs(is_move(program("show f, g"), ("move", "M.f", "N", 0)), False)
        self.assertIs(is_move(program(""), ("move", "M.g", "N", 0)), False)


class TestPlain(unittest.TestCase):
    def look(self, text, change, wanted):
        told = keeps(self, moved_plain, parse(text), change)
        self.assertEqual(text_of(told), text_of(parse(wanted)))

    def test_positions(self):
        text = "module M = let a = 1 let b = 2 let c = 3 end module N = let d = 4 end"
        self.look(text, ("move", "M.a", "M", 0), text)
        self.look("module M = type a = A exception B let a = 1 rec b x = a end", ("move", "M.a", "M", 0),
                  "module M = let a = 1 type a = A exception B rec b x = a end")
        self.look(text, ("move", "M.a", "M", 1), "module M = let b = 2 let a = 1 let c = 3 end module N = let d = 4 end")
        self.look(text, ("move", "M.a", "M", 2), "module M = let b = 2 let c = 3 let a = 1 end module N = let d = 4 end")
        self.look(text, ("move", "M.c", "M", 0), "module M = let c = 3 let a = 1 let b = 2 end module N = let d = 4 end")
        self.look(text, ("move", "M.b", "N", 0), "module M = let a = 1 let c = 3 end module N = let b = 2 let d = 4 end")
        self.look(text, ("move", "M.b", "N", 1), "module M = let a = 1 let c = 3 end module N = let d = 4 let b = 2 end")
        self.look(text, ("move", "N.d", "M", 1), "module M = let a = 1 let d = 4 let b = 2 let c = 3 end module N = end")

    def test_names_are_written_as_seen(self):
        self.look(THREE, ("move", "B.g", "K", 0), THREE.replace("let g = fn x -> (x, A.k, Nil, U) ", "").replace(
            "show () =", "show () = let g = fn x -> (x, A.k, Nil, B.U)").replace("B.g", "g").replace("show () =", "show g ="))
        self.look(THREE, ("move", "A.f", "B", 0), THREE.replace(
            "let f = fn x -> match x with C y -> y + k | _ -> 0 end end", "end").replace(
            "module B =", "module B = let f = fn x -> match x with A.C y -> y + A.k | _ -> 0 end"))
        self.look(THREE, ("move", "B.even", "A", 2), THREE.replace("rec odd n = even n and even n = odd (n - A.k) ", "").replace(
            "let k = 1 ", "let k = 1 rec odd n = even n and even n = odd (n - k) ").replace("do odd 4", "do A.odd 4").replace(
            "B.even", "A.even").replace("B.odd", "A.odd").replace("show k, C", "show k, C, odd, even"))
        self.look(THREE, ("move", "A.k", "B", 2), THREE.replace("let k = 1 ", "").replace("show k, C", "show C").replace(
            "exception E ", "exception E let k = 1 ").replace("y + k", "y + B.k").replace("(x, A.k", "(x, k").replace(
            "n - A.k", "n - k").replace("B.g A.k", "B.g B.k"))

    def test_locals_and_base(self):
        self.look("module M = let x = 1 let f = fn x -> (x, Some x, let y = x in y) end module N = let x = 2 end", ("move", "M.f", "N", 0),
                  "module M = let x = 1 end module N = let f = fn x -> (x, Some x, let y = x in y) let x = 2 end")
        text = "module A = let x = Nil end module Nil = let y = fn a -> match a with Cons _ -> (A.x, Nil) | _ -> (Nil, Nil) end end"
        self.look(text, ("move", "Nil.y", "Nil", 0), text)
        self.look("module Nil = let y = 1 let x = (Nil, y) end module B = end", ("move", "Nil.x", "B", 0),
                  "module Nil = let y = 1 end module B = let x = (Nil, Nil.y) end")
        self.look("module B = end module Nil = let x = (Nil, Some None) end", ("move", "Nil.x", "B", 0),
                  "module B = let x = (Nil, Some None) end module Nil = end")

    def test_shows(self):
        def look(one, other, new_one, new_other, change=("move", "M.f", "N", 0)):
            self.look(f"module M {one} let a = 1 rec f x = x and g x = x end module N {other} let b = 1 end", change,
                      f"module M {new_one} let a = 1 end module N {new_other} rec f x = x and g x = x let b = 1 end")

        look("=", "=", "=", "=")
        look("show f, a, g =", "=", "show a =", "=")
        look("show g =", "show b =", "show () =", "show b, g =")
        look("show g, a, f =", "show b =", "show a =", "show b, f, g =")
        look("=", "show b =", "=", "show b, f, g =")
        look("show () =", "show b =", "show () =", "show b =")
        look("show a =", "show () =", "show a =", "show () =")
        look("=", "show () =", "=", "show f, g =")
        text = "module M show g, a = let a = 1 rec f x = x and g x = x end"
        self.look(text, ("move", "M.g", "M", 0), "module M show g, a = rec f x = x and g x = x let a = 1 end")

    def test_place_behind(self):
        program = parse(THREE)
        change = ("move", "B.odd", "A", 1)
        told = lambda place: keeps(self, place_behind, program, change, place)
        for place, behind in [
                ((0, 0), (0, 0)), ((0, 1), (0, 2)), ((0, 2), (0, 3)), ((0, 2, 0, 1), (0, 3, 0, 1)), ((1, 0), (1, 0)), ((1, 1), (1, 1)), ((1, 2), (1, 2)),
                ((1, 3), (0, 1)), ((1, 3, 1, 0), (0, 1, 1, 0)), ((1, 4), (1, 3)), ((1, 5, 0), (1, 4, 0)), ((2, 0), (2, 0))]:
            self.assertEqual(told(place), behind)
        within = lambda position, place: place_behind(parse("module M = do 0 let a = 1 do 2 do 3 end"), ("move", "M.a", "M", position), place)
        self.assertEqual([[within(p, (0, k)) for k in range(4)] for p in range(4)], [
            [(0, 1), (0, 0), (0, 2), (0, 3)], [(0, 0), (0, 1), (0, 2), (0, 3)], [(0, 0), (0, 2), (0, 1), (0, 3)], [(0, 0), (0, 3), (0, 1), (0, 2)]])


class TestDecided(unittest.TestCase):
    def told(self, text, change):
        return keeps(self, decided_move, parse(text), change)

    def test_faults(self):
        for text, change, reason in [
                ("module M = let a = 1 do a end", ("move", "M.a", "M", 1), ("not bound", "a")),
                ("module M = let a = 1 let b = a end", ("move", "M.b", "M", 0), ("not bound", "a")),
                ("module M = let a = 1 do a end module N = end", ("move", "M.a", "N", 0), ("not bound", "N.a")),
                ("module M = end module N = let a = 1 let b = a end", ("move", "N.b", "M", 0), ("not bound", "N.a")),
                ("module M = type t = C let b = C end", ("move", "M.b", "M", 0), ("not bound", "C")),
                ("module M = let a = 1 end module N = let a = 2 end", ("move", "M.a", "N", 0), ("twice", "a")),
                ("module M show b = let a = 1 let b = a end module N = end", ("move", "M.b", "N", 0), ("not shown", "M.a")),
                ("module M show () = type t = C let b = C end module N = end", ("move", "M.b", "N", 0), ("not shown", "M.C")),
                ("module M = type t = C let b = Some 1 end module N = type t = Some end", ("move", "M.b", "N", 1), ("wrong argument", "Some")),
                ("module A show () = end module B show () = let a = 1 do a end", ("move", "B.a", "A", 0), ("not shown", "A.a"))]:
            self.assertEqual(self.told(text, change), ("refused", ("fault",) + reason), text)

    def test_clashes(self):
        for text, change, reason in [
                ("module M = let a = fn x -> Nil end module N = type t = Nil end", ("move", "M.a", "N", 1), ((1, 1, 0), "Nil", "N.Nil")),
                ("module M = let a = fn x -> match x with None -> 1 | _ -> 2 end end module N = type t = None end", ("move", "M.a", "N", 1),
                 ((1, 1, 0), ("None",), ("N.None",))),
                ("module N = let b = 1 end module M = let a = fn b -> N.b end", ("move", "M.a", "N", 1),
                 ((0, 1, 0), "N.b", ("local", (0, 1), 0))),
                ("module N = end module M = let a = 1 do fn a -> a end module K = do fn a -> M.a end", ("move", "M.a", "K", 0),
                 ((2, 1, 0), "K.a", ("local", (2, 1), 0)))]:
            self.assertEqual(self.told(text, change), ("refused", ("clash",) + reason), text)

    def test_taken(self):
        for text, change in [
                (THREE, ("move", "B.g", "K", 0)), (THREE, ("move", "A.f", "B", 3)), (THREE, ("move", "A.f", "A", 2)),
                ("module M = let a = fn x -> Nil end module N = type t = Nil end", ("move", "M.a", "N", 0))]:
            program = parse(text)
            self.assertEqual(self.told(text, change), ("taken", moved_plain(program, change)))

    def test_random_moves(self):
        rand = random.Random(8)
        counts = {"taken": 0, "fault": 0, "clash": 0}
        for seed in range(36):
            program = Typed(100 + seed).program(3, modules=3, decls=3)
            if not is_program(program):
                continue
            names = resolved(program).value_names()
            changes = [("move", name, module[1], k) for name in names for module in program for k in range(len(module[3]) + 1)]
            changes = [change for change in changes if is_move(program, change)]
            for change in rand.sample(changes, min(6, len(changes))):
                word, told = decided_move(program, change)
                plain = moved_plain(program, change)
                self.assertTrue(is_program(plain))
                self.assertEqual(sorted(place_behind(program, change, place) for place in places(program)), places(plain))
                for place in places(program):
                    self.assertEqual(expr_at(plain, place_behind(program, change, place))[0], expr_at(program, place)[0])
                counts["taken" if word == "taken" else told[0]] += 1
                if word == "taken":
                    self.assertEqual(told, plain)
                    self.look_at_taken(program, change, plain)
                elif told[0] == "fault":
                    self.assertIsNotNone(error_of(resolved, plain))
                else:
                    wanted = dict(self.wanted(program, change))
                    unlike = [(place, wanted[place], would) for place, would in meanings(plain) if wanted[place] != would]
                    self.assertEqual(told, ("clash",) + unlike[0])
        self.assertGreater(min(counts["taken"], counts["fault"]), 15)

    def new_names(self, program, change):
        home, target = change[1].partition(".")[0], change[2]
        decl = next(decl for at, decl in decls_of(program) if program[at[0]][1] == home and (
            decl[0] == "let" and f"{home}.{decl[1]}" == change[1] or decl[0] == "rec" and change[1] in [f"{home}.{m[0]}" for m in decl[1]]))
        names = [decl[1]] if decl[0] == "let" else [member[0] for member in decl[1]]
        return {f"{home}.{name}": f"{target}.{name}" for name in names}

    def wanted(self, program, change):
        table = self.new_names(program, change)
        for place, meaning in meanings(program):
            if isinstance(meaning, tuple) and meaning[:1] == ("local",):
                meaning = ("local", place_behind(program, change, meaning[1]), meaning[2])
            elif isinstance(meaning, str):
                meaning = table.get(meaning, meaning)
            yield place_behind(program, change, place), meaning

    def look_at_taken(self, program, change, plain):
        self.assertTrue(is_accepted(plain))
        self.assertEqual(sorted(self.wanted(program, change)), meanings(plain))
        table = self.new_names(program, change)
        self.assertEqual(sorted((table.get(name, name), scheme) for name, scheme in schemes(resolved(program))),
                         sorted(schemes(resolved(plain))))
        labels = self.labels(program, change, plain)
        for ticks in (0, 3, 60):
            trace, end = run_plain(program, [1, 2, 3], ticks)
            wanted = [("call", labels[event[1]]) if event[0] == "call" else event for event in trace]
            self.assertEqual(run_plain(plain, [1, 2, 3], ticks), (wanted, end))

    def labels(self, program, change, plain):
        before, after = self.label_places(program), self.label_places(plain)
        return {label: after.index(place_behind(program, change, place)) for label, place in enumerate(before)}

    def label_places(self, program):
        """For each label the place of the function's body."""
        found = []

        def walk(place, expr):
            if expr[0] == "fn":
                found.append(place + (0,))
                walk(place + (0,), expr[2])
            elif expr[0] == "rec":
                for k, member in enumerate(expr[1]):
                    found.append(place + (k,))
                    walk(place + (k,), member[2])
                walk(place + (len(expr[1]),), expr[2])
            else:
                for k in range(9):
                    inner = place + (k,)
                    if inner in known:
                        walk(inner, known[inner])

        known = dict(all_exprs(program))
        for at, decl in decls_of(program):
            if decl[0] == "rec":
                for k, member in enumerate(decl[1]):
                    found.append(at + (k,))
                    walk(at + (k,), member[2])
            elif decl[0] in ("let", "do"):
                walk(at, decl[-1])
        return found


class TestErrors(unittest.TestCase):
    def test_errors(self):
        program = parse("module M = let x = fn y -> y do 1 end")
        first = ("program", InvalidProgram, bad_for(is_program))
        second = ("change", InvalidChange, ODD + [("move", "M.y", "M", 0), ("move", "M.x", "M", 2), ["move", "M.x", "M", 0]])
        good = [("program", program), ("change", ("move", "M.x", "M", 1))]
        look_at_errors(self, is_move, [("program", program), ("value", None)], [first])
        for call in (moved_plain, decided_move):
            look_at_errors(self, call, good, [first, second])
        places_bad = ODD + [(0, 2), (0, 0, 1), [0, 0], (False, 0), (0, True), (0, 0, 0, 0), (1, 0)]
        look_at_errors(self, place_behind, good + [("place", (0, 0, 0))], [first, second, ("place", InvalidPlace, places_bad)])
        with_types = parse("module M = type t = A rec f x = x exception E end")
        for place in ((0, 0), (0, 1), (0, 1, 0), (0, 2)):
            self.assertEqual(place_behind(with_types, ("move", "M.f", "M", 1), place), place)
        self.assertIsInstance(error_of(place_behind, with_types, ("move", "M.f", "M", 1), (0, 1, 1)), InvalidPlace)

    def test_faults_of_the_program(self):
        for text, kind, name in [("do x", NotBound, "x"), ("let x = 1 let x = 2", Twice, "x"), ("do Nil 1", WrongArgument, "Nil")]:
            program = parse(f"module M = {text} end")
            for call, args in ((is_move, (None,)), (moved_plain, (None,)), (decided_move, (None,)), (place_behind, (None, None))):
                error = error_of(call, program, *args)
                self.assertEqual((type(error), error.name), (kind, name))


if __name__ == "__main__":
    unittest.main()
