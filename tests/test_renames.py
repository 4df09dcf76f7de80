"""Meanings and changes of names: [231], [232], [234], [235]."""

import random
import unittest

from checking import ODD, bad_for, error_of, keeps, look_at_errors
from naivenames import naive_binder
from typed import Typed

from changedsame.bindings import are_alike_but_names, binders, name_of
from changedsame.errors import InvalidChange, InvalidProgram, NotBound, NotShown, Twice, WrongArgument
from changedsame.infer import is_accepted, schemes
from changedsame.parser import parse
from changedsame.places import expr_at, places
from changedsame.plainruns import run_plain
from changedsame.printer import program_text
from changedsame.renames import changed_wholes, decided_rename, is_rename, meanings, renamed_plain
from changedsame.trees import is_program
from changedsame.wholes import resolved

BIG = ("module A show f, x, C, E = type t('a) = C of 'a | D exception E of t(int) let x = 1 rec f y = g y and g x = f x end "
       "module B = type t = C of A.t(int) type f = F of f let x = A.x "
       "let h = fn z -> match z with A.C k -> (k, x, A.f k) | _ -> (1, x, 5) end end "
       "module K show x, E, h = exception E let x = fn u -> 2 let h = try raise E with E -> B.x | A.E (A.C v) -> v end end")


class TestMeanings(unittest.TestCase):
    def test_each_form(self):
        program = parse(
            "module A = type t('a) = C of 'a * t('a) | D of list(option(t(int))) exception E of t(int) exception Q "
            "let x = Some (fn y -> (1, y)) end module B = type u = V of A.t(u) * (u -> ref(list(int))) let z = (A.x, A.D Nil) do match z with (_, A.D (Cons (p, _))) -> p | (Some q, _) -> None end "
            "do try z with A.Q -> z | r -> raise r end rec k a = k a do fn z -> z do try 1 with _ -> 2 end end")
        self.assertEqual(keeps(self, meanings, program), [
            ((0, 0), ("A.t", "list", "option", "A.t")), ((0, 1), ("A.t",)), ((0, 2), ()),
            ((0, 3), "Some"), ((0, 3, 0, 0, 1), ("local", (0, 3, 0), 0)),
            ((1, 0), ("A.t", "B.u", "B.u", "list")),
            ((1, 1, 0), "A.x"), ((1, 1, 1), "A.D"), ((1, 1, 1, 0), "Nil"),
            ((1, 2), ("A.D", "Cons", "Some")), ((1, 2, 0), "B.z"), ((1, 2, 1), ("local", (1, 2), 0)), ((1, 2, 2), "None"),
            ((1, 3), ("A.Q",)), ((1, 3, 0), "B.z"), ((1, 3, 1), "B.z"), ((1, 3, 2, 0), ("local", (1, 3), 0)),
            ((1, 4, 0, 0), "B.k"), ((1, 4, 0, 1), ("local", (1, 4), 0)), ((1, 5, 0), ("local", (1, 5), 0)), ((1, 6), ())])

    def test_random_programs(self):
        for seed in range(25):
            program = Typed(seed).program(4)
            if not is_program(program):
                continue
            told = dict(meanings(program))
            self.assertEqual(list(told), sorted(told))
            names = resolved(program).value_names()
            for place in places(program):
                expr = expr_at(program, place)
                if expr[0] == "var":
                    binder = naive_binder(program, place, expr[1])
                    self.assertEqual(told[place], names[binder[1]] if binder[0] == "value" else binder)
                self.assertEqual(place in told, expr[0] in ("var", "con", "match", "try"))


class TestFits(unittest.TestCase):
    def test_each_kind(self):
        program = parse(BIG)
        for change in [
                ("rename local", (0, 3), 0, "q"), ("rename local", (0, 3), 1, "q"), ("rename local", (1, 3), 0, "z"),
                ("rename local", (1, 3, 0), 0, "q"), ("rename value", "A.x", "q"), ("rename value", "A.g", "q"), ("rename value", "K.h", "x"),
                ("rename type", "A.t", "q"), ("rename type", "B.f", "list"), ("rename constructor", "A.C", "Q"), ("rename constructor", "A.E", "Nil"),
                ("rename constructor", "K.E", "E"), ("rename module", "B", "Q"), ("rename module", "A", "K"), ("rename module", "B", "B")]:
            self.assertIs(keeps(self, is_rename, program, change), True, change)

    def test_others(self):
        program = parse(BIG)
        for value in ODD + [
                ("rename local", (0, 3), 2, "q"), ("rename local", (0, 2), 0, "q"), ("rename local", [0, 3], 0, "q"), ("rename local", (0, 3), True, "q"),
                ("rename local", (0, 3), 0, "Q"), ("rename local", (0, 3), 0, "A.q"), ("rename local", (0, 3), 0), ("rename local", (0, 3), 0, "if"),
                ("rename local", (0, 9), 0, "q"), ("rename local", None, 0, "q"), ("rename value", "A.t", "q"), ("rename value", "x", "q"),
                ("rename value", "A.y", "q"), ("rename value", "A.x", "Q"), ("rename value", "A.x", "K.q"), ("rename value", "A.x", ""),
                ("rename value", ["A.x"], "q"), ("rename value", "A.C", "Q"), ("rename value", "A.x"), ("rename value", "A.x", "q", 1),
                ("rename type", "list", "q"), ("rename type", "A.x", "q"), ("rename type", "A.t", "Q"), ("rename constructor", "Nil", "Q"),
                ("rename constructor", "A.C", "q"), ("rename constructor", "A.F", "Q"), ("rename constructor", "C", "Q"), ("rename module", "L", "Q"),
                ("rename module", "A", "q"), ("rename module", "A", "A.B"), ("rename module", "A"), ["rename module", "A", "Q"],
                ("rename", "A.x", "q"), ("rename module", None, "Q"), ("rename module", "A", None), ("move", "A.x", "A", 0)]:
            self.assertIs(is_rename(program, value), False, value)


class TestPlain(unittest.TestCase):
    def look(self, change, *pairs, text=BIG):
        """The plain result is the text with some parts changed, each where it stands first, or everywhere."""
        wanted = text
        for old, new in pairs:
            self.assertIn(old, wanted)
            wanted = wanted.replace(old, new)
        self.assertEqual(program_text(keeps(self, renamed_plain, parse(text), change)), program_text(parse(wanted)))

    def test_values(self):
        self.look(("rename value", "A.x", "q"), ("show f, x", "show f, q"), ("let x = 1", "let q = 1"), ("A.x", "A.q"))
        self.look(("rename value", "B.x", "q"), ("let x = A.x", "let q = A.x"), ("(k, x,", "(k, q,"), ("(1, x,", "(1, q,"), ("B.x", "B.q"))
        self.look(("rename value", "A.f", "q"), ("show f", "show q"), ("rec f y", "rec q y"), ("= f x", "= q x"), ("A.f", "A.q"))
        self.look(("rename value", "A.g", "q"), ("= g y and g x", "= q y and q x"))
        self.look(("rename value", "K.h", "q"), ("E, h =", "E, q ="), ("let h = try", "let q = try"))

    def test_types_and_constructors(self):
        self.look(("rename type", "A.t", "q"), ("type t('a)", "type q('a)"), ("of t(int)", "of q(int)"), ("A.t", "A.q"))
        self.look(("rename type", "B.f", "q"), ("type f = F of f", "type q = F of q"))
        self.look(("rename type", "B.t", "list"), ("type t = C of A.t", "type list = C of A.t"))
        deep = "module M = type t = A type u('a) = B of ref(t) * array(list(t)) * 'a * (t -> t -> u(t)) exception E of (t -> int) * t end"
        self.look(("rename type", "M.t", "q"), ("type t", "type q"), ("ref(t)", "ref(q)"), ("list(t)", "list(q)"), ("t -> t -> u(t)", "q -> q -> u(q)"),
                  ("(t -> int) * t", "(q -> int) * q"), text=deep)
        self.look(("rename type", "M.u", "q"), ("type u", "type q"), ("-> u(t)", "-> q(t)"), text=deep)
        both = "module M show t, A = type t = A type u = B of t let t = 1 rec u t = u t do t end"
        self.look(("rename type", "M.t", "q"), ("type t", "type q"), ("of t", "of q"), text=both)
        self.look(("rename type", "M.u", "q"), ("type u", "type q"), text=both)
        self.look(("rename value", "M.t", "q"), ("show t", "show q"), ("let t", "let q"), ("do t", "do q"), text=both)
        self.look(("rename value", "M.u", "q"), ("rec u t = u t", "rec q t = q t"), text=both)
        self.look(("rename constructor", "A.C", "Q"), ("x, C,", "x, Q,"), ("= C of 'a", "= Q of 'a"), ("A.C", "A.Q"))
        self.look(("rename constructor", "B.C", "Q"), ("type t = C of", "type t = Q of"))
        self.look(("rename constructor", "A.E", "Q"), ("C, E = type", "C, Q = type"), ("exception E of", "exception Q of"), ("A.E", "A.Q"))
        self.look(("rename constructor", "K.E", "Q"), ("show x, E, h", "show x, Q, h"), ("exception E let", "exception Q let"),
                  ("raise E with E", "raise Q with Q"))

    def test_modules(self):
        self.look(("rename module", "A", "Q"), ("module A", "module Q"), ("A.", "Q."))
        self.look(("rename module", "B", "Q"), ("module B", "module Q"), ("B.", "Q."))
        self.look(("rename module", "K", "Q"), ("module K", "module Q"))

    def test_locals(self):
        self.look(("rename local", (0, 3), 0, "q"), ("f y = g y", "f q = g q"))
        self.look(("rename local", (0, 3), 1, "q"), ("g x = f x", "g q = f q"))
        self.look(("rename local", (1, 3, 0), 0, "q"), ("A.C k -> (k, x, A.f k)", "A.C q -> (q, x, A.f q)"))
        text = ("module M = do rec f x = g x and g y = f y in f do let x = 1 in (x, fn x -> x) do match 1 with x -> x | y -> y end "
                "do match (1, Some 2) with (a, Some b) -> a + b | (c, _) -> c end end")
        self.look(("rename local", (0, 0), 0, "q"), ("f x = g x", "q x = g x"), ("= f y in f", "= q y in q"), text=text)
        self.look(("rename local", (0, 0), 1, "q"), ("g x and g y", "q x and q y"), text=text)
        self.look(("rename local", (0, 0), 2, "q"), ("f x = g x", "f q = g q"), text=text)
        self.look(("rename local", (0, 0), 3, "q"), ("g y = f y", "g q = f q"), text=text)
        self.look(("rename local", (0, 1), 0, "q"), ("let x = 1 in (x,", "let q = 1 in (q,"), text=text)
        self.look(("rename local", (0, 1, 1, 1), 0, "q"), ("fn x -> x", "fn q -> q"), text=text)
        self.look(("rename local", (0, 2), 1, "q"), ("y -> y", "q -> q"), text=text)
        self.look(("rename local", (0, 3), 1, "q"), ("Some b) -> a + b", "Some q) -> a + q"), text=text)
        self.look(("rename local", (0, 3), 2, "a"), ("(c, _) -> c", "(a, _) -> a"), text=text)
        self.look(("rename local", (0, 3), 2, "c"), text=text)

    def test_what_is_no_program(self):
        text = "module M show x, y = let x = 1 let y = 2 do match (1, 2) with (a, b) -> a end do rec f z = z and g z = z in 1 end"
        program = parse(text)
        self.assertEqual(renamed_plain(program, ("rename value", "M.x", "y"))[0][2], ("y", "y"))
        self.assertEqual(renamed_plain(program, ("rename local", (0, 2), 0, "b"))[0][3][2][1][2],
                         ((("tuple", (("bind", "b"), ("bind", "b"))), ("var", "b")),))
        self.assertEqual([member[0] for member in renamed_plain(program, ("rename local", (0, 3), 0, "g"))[0][3][3][1][1]], ["g", "g"])

    def test_changed_wholes(self):
        program = parse(BIG)
        for change, told in [
                (("rename local", (0, 3), 0, "q"), []), (("rename value", "A.x", "q"), [("A.x", "A.q")]), (("rename value", "A.x", "x"), []),
                (("rename type", "A.t", "q"), [("A.t", "A.q")]), (("rename constructor", "A.E", "Q"), [("A.E", "A.Q")]),
                (("rename module", "B", "Q"), [("B.C", "Q.C"), ("B.F", "Q.F"), ("B.f", "Q.f"), ("B.h", "Q.h"), ("B.t", "Q.t"), ("B.x", "Q.x")]),
                (("rename module", "K", "K"), [])]:
            self.assertEqual(keeps(self, changed_wholes, program, change), told)
        both = parse("module M = type x = A let x = 1 end")
        self.assertEqual(changed_wholes(both, ("rename module", "M", "N")), [("M.A", "N.A"), ("M.x", "N.x")])


class TestDecided(unittest.TestCase):
    def told(self, text, change):
        return keeps(self, decided_rename, parse(text), change)

    def test_taken(self):
        program = parse(BIG)
        for change in [("rename value", "A.x", "q"), ("rename value", "A.x", "x"), ("rename value", "B.x", "k2"), ("rename type", "A.t", "x"),
                       ("rename constructor", "B.C", "Nil"), ("rename module", "A", "Nil"), ("rename local", (0, 3), 0, "f2"),
                       ("rename local", (0, 3), 0, "f"), ("rename constructor", "A.D", "K")]:
            told = decided_rename(program, change)
            self.assertEqual(told, ("taken", renamed_plain(program, change)), change)

    def test_faults(self):
        text = "module M show x, y, C, D = type t = C | D of int type u = E exception F let x = 1 let y = 2 rec f z = z and g z = f z "
        text += "do match (1, 2) with (a, b) -> a end do rec h z = z and i z = z in 1 do Nil end module N = do M.x end"
        for change, name in [
                (("rename value", "M.x", "y"), "y"), (("rename value", "M.y", "x"), "x"), (("rename value", "M.x", "f"), "f"), (("rename value", "M.f", "g"), "g"),
                (("rename type", "M.t", "u"), "u"), (("rename constructor", "M.C", "D"), "D"), (("rename constructor", "M.E", "C"), "C"),
                (("rename constructor", "M.F", "E"), "E"), (("rename module", "M", "N"), "N"), (("rename module", "N", "M"), "M"),
                (("rename local", (0, 6), 0, "b"), "b"), (("rename local", (0, 7), 0, "i"), "i")]:
            self.assertEqual(self.told(text, change), ("refused", ("fault", "twice", name)), change)
        self.assertEqual(self.told(text, ("rename constructor", "M.D", "Nil")), ("refused", ("fault", "wrong argument", "Nil")))
        self.assertEqual(self.told(text, ("rename constructor", "M.C", "Nil")), ("refused", ("clash", (0, 8), "Nil", "M.Nil")))
        self.assertEqual(self.told("module M = type t('a) = C type u = D of list(int) end", ("rename type", "M.t", "list")),
                         ("refused", ("clash", (0, 1), ("list",), ("M.list",))))
        self.assertEqual(self.told("module M = type t = C type u = D of list(int) end", ("rename type", "M.t", "list")),
                         ("refused", ("fault", "wrong argument", "list")))
        self.assertEqual(self.told("module A = let x = 1 end module B = let y = 1 end module C = do A.x end", ("rename module", "B", "C")),
                         ("refused", ("fault", "twice", "C")))

    def test_clashes(self):
        local = lambda *place: ("local", place, 0)
        for text, change, reason in [
                ("module M = do fn x -> fn y -> (x, y) end", ("rename local", (0, 0), 0, "y"), ((0, 0, 0, 0, 0), local(0, 0), local(0, 0, 0))),
                ("module M = do fn x -> fn y -> (x, y) end", ("rename local", (0, 0, 0), 0, "x"), ((0, 0, 0, 0, 0), local(0, 0), local(0, 0, 0))),
                ("module M = let a = 1 do fn x -> (x, a) end", ("rename local", (0, 1), 0, "a"), ((0, 1, 0, 1), "M.a", local(0, 1))),
                ("module M = let a = 1 do fn x -> (x, a) end", ("rename value", "M.a", "x"), ((0, 1, 0, 1), "M.x", local(0, 1))),
                ("module M = do match 1 with x -> let y = 2 in x + y end end", ("rename local", (0, 0), 0, "y"),
                 ((0, 0, 1, 1, 0), local(0, 0), local(0, 0, 1))),
                ("module M = type t = C do match Nil with Nil -> 1 | _ -> 2 end end", ("rename constructor", "M.C", "Nil"),
                 ((0, 1), ("Nil",), ("M.Nil",))),
                ("module M = rec f x = g x and g y = f y end", ("rename local", (0, 0), 0, "g"), ((0, 0, 0, 0), "M.g", local(0, 0))),
                ("module M = do rec f x = f x in f end", ("rename local", (0, 0), 1, "f"), ((0, 0, 0, 0), local(0, 0), ("local", (0, 0), 1))),
                ("module M = exception E let x = 1 end module N = do try 1 with Bounds -> 2 end do Bounds end",
                 ("rename constructor", "M.E", "Bounds"), None),
                ("module M = exception E do try 1 with Bounds -> 2 | E -> 3 end do Bounds end", ("rename constructor", "M.E", "Bounds"),
                 ((0, 1), ("Bounds", "M.Bounds"), ("M.Bounds", "M.Bounds")))]:
            told = self.told(text, change)
            if reason is None:
                self.assertEqual(told[0], "taken")
            else:
                self.assertEqual(told, ("refused", ("clash",) + reason), text)

    def all_changes(self, program, rand):
        whole = resolved(program)
        smalls = ["a", "b", "c", "x", "y", "f", "d", "q"]
        bigs = ["A", "B", "E", "Nil", "DivZero", "M", "N", "Q"]
        for binder in binders(program):
            new = rand.choice(smalls)
            if binder[0] == "local":
                yield ("rename local",) + binder[1:] + (new,)
            else:
                yield ("rename value", whole.value_names()[binder[1]], new)
        for maker in whole.cons():
            if "." in maker[0]:
                yield ("rename constructor", maker[0], rand.choice(bigs))
        for decl in whole.decls():
            if decl[0] == "type":
                yield ("rename type", decl[1], rand.choice(smalls + ["list"]))
        for module in program:
            yield ("rename module", module[1], rand.choice(bigs))

    def back(self, change):
        if change[0] == "rename local":
            return None
        if change[0] == "rename module":
            return (change[0], change[2], change[1])
        home, _, old = change[1].partition(".")
        return (change[0], f"{home}.{change[2]}", old)

    def test_random_changes(self):
        rand = random.Random(4)
        counts = {"taken": 0, "fault": 0, "clash": 0}
        for seed in range(14):
            program = Typed(seed).program(4)
            if not is_program(program):
                continue
            self.assertTrue(is_accepted(program))
            for change in self.all_changes(program, rand):
                word, told = decided_rename(program, change)
                plain = renamed_plain(program, change)
                table = dict(changed_wholes(program, change))
                if word == "taken":
                    counts["taken"] += 1
                    self.look_at_taken(program, change, plain, table)
                    self.assertEqual(told, plain)
                elif told[0] == "fault":
                    counts["fault"] += 1
                    if is_program(plain):
                        self.assertEqual(type(error_of(resolved, plain)), {
                            "twice": Twice, "not bound": NotBound, "not shown": NotShown, "wrong argument": WrongArgument}[told[1]])
                        self.assertEqual(error_of(resolved, plain).name, told[2])
                    else:
                        self.assertEqual(told, ("fault", "twice", change[-1]))
                else:
                    counts["clash"] += 1
                    self.assertFalse(are_alike_but_names(program, plain))
                    map_one = lambda name: tuple(table.get(n, n) for n in name) if isinstance(name, tuple) and name[:1] != ("local",) else (
                        table.get(name, name))
                    unlike = [(p, map_one(was), would) for (p, was), (_, would) in zip(meanings(program), meanings(plain))
                              if map_one(was) != would]
                    self.assertEqual(told, ("clash",) + unlike[0])
        self.assertGreater(min(counts.values()), 5)

    def look_at_taken(self, program, change, plain, table):
        self.assertTrue(are_alike_but_names(program, plain))
        self.assertTrue(is_accepted(plain))
        self.assertEqual([(table.get(name, name), self.with_names(scheme, table)) for name, scheme in schemes(resolved(program))],
                         schemes(resolved(plain)))
        trace, end = run_plain(program, [1, 2, 3], 40)
        wanted = [("raise", table.get(event[1], event[1])) if event[0] == "raise" else event for event in trace]
        end = ("raised", table.get(end[1], end[1])) if end[0] == "raised" else end
        self.assertEqual(run_plain(plain, [1, 2, 3], 40), (wanted, end))
        back = self.back(change)
        if change[0] == "rename local":
            back = change[:3] + (name_of(program, ("local",) + change[1:3]),)
        self.assertEqual(decided_rename(plain, back), ("taken", program))

    def with_names(self, tree, table):
        if isinstance(tree, str):
            return table.get(tree, tree)
        return tuple(self.with_names(part, table) for part in tree) if isinstance(tree, tuple) else tree


class TestErrors(unittest.TestCase):
    def test_errors(self):
        program = parse("module M = let x = fn y -> y end")
        first = ("program", InvalidProgram, bad_for(is_program))
        second = ("change", InvalidChange, ODD + [("rename value", "M.y", "z"), ("rename local", (0, 0), 1, "z"), ["rename value", "M.x", "z"]])
        look_at_errors(self, meanings, [("program", program)], [first])
        look_at_errors(self, is_rename, [("program", program), ("value", None)], [first])
        for call in (renamed_plain, changed_wholes, decided_rename):
            look_at_errors(self, call, [("program", program), ("change", ("rename value", "M.x", "z"))], [first, second])

    def test_faults_of_the_program(self):
        for text, kind, name in [("do x", NotBound, "x"), ("let x = 1 let x = 2", Twice, "x"), ("do Nil 1", WrongArgument, "Nil")]:
            program = parse(f"module M = {text} end")
            for call, args in ((meanings, ()), (is_rename, (None,)), (renamed_plain, (None,)), (changed_wholes, (None,)), (decided_rename, (None,))):
                error = error_of(call, program, *args)
                self.assertEqual((type(error), error.name), (kind, name))
        hidden = parse("module M show () = let x = 1 end module N = do M.x end")
        self.assertIsInstance(error_of(decided_rename, hidden, None), NotShown)


if __name__ == "__main__":
    unittest.main()
