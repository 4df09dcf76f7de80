"""Binders, uses, what is seen, programs alike but for names, types at places: [203] to [207]."""

import unittest

from checking import ODD, bad_for, error_of, keeps, look_at_errors
from naive import naive_types
from naivenames import naive_binder
from typed import Typed

from changedsame.bindings import are_alike_but_names, binder_of, binders, name_of, seen_at, type_at, uses
from changedsame.errors import (
    InvalidBinder, InvalidPlace, InvalidProgram, InvalidUse, NotAccepted, NotBound, NotShown, Twice, WrongArgument)
from changedsame.infer import is_accepted, schemes
from changedsame.kinds import general
from changedsame.parser import parse, parse_type
from changedsame.places import expr_at, places, put_at
from changedsame.plainruns import run_plain
from changedsame.trees import is_program
from changedsame.wholes import resolved

FAULTS = [("module M = do x end", NotBound, "x"), ("module M = let x = 1 let x = 2 end", Twice, "x"),
          ("module M show () = let x = 1 end module N = do M.x end", NotShown, "M.x"), ("module M = do Nil 1 end", WrongArgument, "Nil")]


def naive_seen(program, place, names):
    """All names that could stand at a place, and what they would be."""
    found = []
    for name in names:
        told = put_at(program, place, ("var", name))
        try:
            resolved(told)
        except (NotBound, NotShown):
            continue
        found.append((name, naive_binder(told, place, name)))
    return sorted(found)


class TestBinders(unittest.TestCase):
    def test_each_form(self):
        program = parse(
            "module M = exception E of int let a = fn x -> x rec f x = x and g y = f do let z = a in z do rec h u = h and i u = h in i "
            "do match (1, Some 2) with (p, Some q) -> p | (_, r) -> 5 end do try 1 with s -> 2 | E t -> t end end")
        self.assertEqual(binders(program), [
            ("local", (0, 1), 0), ("local", (0, 2), 0), ("local", (0, 2), 1), ("local", (0, 3), 0),
            ("local", (0, 4), 0), ("local", (0, 4), 1), ("local", (0, 4), 2), ("local", (0, 4), 3),
            ("local", (0, 5), 0), ("local", (0, 5), 1), ("local", (0, 5), 2),
            ("local", (0, 6), 0), ("local", (0, 6), 1), ("value", 0), ("value", 1), ("value", 2)])
        names = [name_of(program, binder) for binder in binders(program)]
        self.assertEqual(names, ["x", "x", "y", "z", "h", "i", "u", "u", "p", "q", "r", "s", "t", "a", "f", "g"])
        self.assertEqual(uses(program, ("local", (0, 4), 0)), [(0, 4, 0), (0, 4, 1)])
        self.assertEqual(uses(program, ("local", (0, 4), 1)), [(0, 4, 2)])
        self.assertEqual(uses(program, ("local", (0, 4), 2)), [])
        self.assertEqual(uses(program, ("local", (0, 6), 1)), [(0, 6, 2)])
        self.assertEqual(uses(program, ("value", 1)), [(0, 2, 1)])
        self.assertEqual(binder_of(program, (0, 2, 0)), ("local", (0, 2), 0))

    def test_which_one_is_innermost(self):
        program = parse("module M = let x = 1 rec x2 x = let x = x in rec x x = x and y z = x in match x with x -> x | _ -> x end "
                        "do rec f f = f in f do fn x -> (fn x -> x) x do let x = x in x end")
        at = {place: binder_of(program, place) for place in places(program) if expr_at(program, place)[0] == "var"}
        self.assertEqual(at, {
            (0, 1, 0, 0): ("local", (0, 1), 0), (0, 1, 0, 1, 0): ("local", (0, 1, 0, 1), 2),
            (0, 1, 0, 1, 1): ("local", (0, 1, 0, 1), 0), (0, 1, 0, 1, 2, 0): ("local", (0, 1, 0, 1), 0),
            (0, 1, 0, 1, 2, 1): ("local", (0, 1, 0, 1, 2), 0), (0, 1, 0, 1, 2, 2): ("local", (0, 1, 0, 1), 0),
            (0, 2, 0): ("local", (0, 2), 1), (0, 2, 1): ("local", (0, 2), 0),
            (0, 3, 0, 0, 0): ("local", (0, 3, 0, 0), 0), (0, 3, 0, 1): ("local", (0, 3), 0),
            (0, 4, 0): ("value", 0), (0, 4, 1): ("local", (0, 4), 0)})

    def test_values_of_modules(self):
        program = parse("module A = let x = 1 let y = x end module B = let x = A.x let z = x + A.y end module C = do B.x do A.x end")
        self.assertEqual([uses(program, ("value", k)) for k in range(4)], [[(0, 1), (1, 0), (2, 1)], [(1, 1, 1)], [(1, 1, 0), (2, 0)], []])
        self.assertEqual([name_of(program, ("value", k)) for k in range(4)], ["x", "y", "x", "z"])

    def test_random_programs(self):
        for seed in range(12):
            program = Typed(seed).program(4)
            if not is_program(program):
                continue
            found = {binder: [] for binder in binders(program)}
            for place in places(program):
                expr = expr_at(program, place)
                if expr[0] == "var":
                    binder = naive_binder(program, place, expr[1])
                    self.assertEqual(binder_of(program, place), binder)
                    self.assertEqual(name_of(program, binder), expr[1].partition(".")[2] or expr[1])
                    found[binder].append(place)
                else:
                    self.assertEqual(type(error_of(binder_of, program, place)), InvalidUse)
            for binder in found:
                self.assertEqual(uses(program, binder), found[binder])
            names = sorted({name_of(program, binder) for binder in found} | set(resolved(program).value_names()) | {"q", "Q.x"})
            for place in places(program)[::3]:
                self.assertEqual(keeps(self, seen_at, program, place), naive_seen(program, place, names), (seed, place))

    def test_seen(self):
        program = parse("module A = let one = 1 let two = 2 end module B show four = let three = 3 let four = 4 end module C = let one = 5 "
                        "rec f a = a and g one = one let h = fn x -> let y = x in y exception Q do 1 end module D = do 1 end")
        others = [("A.one", ("value", 0)), ("A.two", ("value", 1))]
        shown = others + [("B.four", ("value", 3))]
        self.assertEqual(seen_at(program, (0, 0)), [])
        self.assertEqual(seen_at(program, (1, 1)), others + [("three", ("value", 2))])
        self.assertEqual(seen_at(program, (2, 1, 0)), shown + [
            ("a", ("local", (2, 1), 0)), ("f", ("value", 5)), ("g", ("value", 6)), ("one", ("value", 4))])
        self.assertEqual(seen_at(program, (2, 1, 1)), shown + [
            ("f", ("value", 5)), ("g", ("value", 6)), ("one", ("local", (2, 1), 1))])
        self.assertEqual(seen_at(program, (2, 2, 0, 0)), shown + [
            ("f", ("value", 5)), ("g", ("value", 6)), ("one", ("value", 4)), ("x", ("local", (2, 2), 0))])
        self.assertEqual(seen_at(program, (2, 2, 0, 1))[-1], ("y", ("local", (2, 2, 0), 0)))
        self.assertEqual(seen_at(program, (3, 0)), shown + [
            ("C.f", ("value", 5)), ("C.g", ("value", 6)), ("C.h", ("value", 7)), ("C.one", ("value", 4))])

    def test_errors(self):
        program = parse("module M = let a = fn x -> x do a end")
        first = ("program", InvalidProgram, bad_for(is_program))
        place = ("place", InvalidPlace, ODD + [(0, 2), [0, 0], (0, 0, 1)])
        binder = ("binder", InvalidBinder, ODD + [
            ("value", 1), ("value", True), ("value", False), ("value",), ("value", 0, 0), ("local", (0, 0)), ["value", 0],
            ("local", (0, 0), 1), ("local", (0, 0), False), ("local", [0, 0], 0), ("local", (0, 1), 0), ("local", (0, 0, 0), 0),
            ("local", (0, False), 0), ("local", (0, 5), 0), ("local", (), 0), ("value", -1), ("locals", (0, 0), 0)])
        look_at_errors(self, binders, [("program", program)], [first])
        for call in (seen_at, type_at):
            look_at_errors(self, call, [("program", program), ("place", (0, 0))], [first, place])
        look_at_errors(self, binder_of, [("program", program), ("place", (0, 0, 0))], [first, place])
        error = error_of(binder_of, program, (0, 0))
        self.assertEqual((type(error), error.value), (InvalidUse, (0, 0)))
        for call in (uses, name_of):
            look_at_errors(self, call, [("program", program), ("binder", ("local", (0, 0), 0))], [first, binder])
        rec = parse("module M = rec f x = x do 1 end")
        look_at_errors(self, uses, [("program", rec), ("binder", ("local", (0, 0), 0))], [("binder", InvalidBinder, [
            ("local", (0, False), 0), ("local", (False, 0), 0), ("local", (0, 0), 1), ("local", (0, 1), 0), ("local", (0, 0, 0), 0)])])
        look_at_errors(self, are_alike_but_names, [("program", program), ("other", program)],
                       [first, ("other", InvalidProgram, bad_for(is_program))])

    def test_faults(self):
        for text, kind, name in FAULTS:
            program = parse(text)
            good = parse("module M = let x = 1 end")
            for call, args in [(binders, ()), (binder_of, (None,)), (uses, (None,)), (name_of, (None,)), (seen_at, (None,)),
                               (type_at, (None,)), (are_alike_but_names, (None,))]:
                error = error_of(call, program, *args)
                self.assertEqual((type(error), error.name), (kind, name), (text, call))
            error = error_of(are_alike_but_names, good, program)
            self.assertEqual((type(error), error.name), (kind, name))


class TestAlike(unittest.TestCase):
    ONE = ("module A show f, C = type t('a, 'b) = C of 'a * int | D of 'b type u = U of t(int, bool) exception E of u "
           "let x = 1 rec f y = g x and g z = f z end module B = exception F let h = fn a -> match a with A.C (k, _) -> k | _ -> 5 end "
           "do try A.f 1 with F -> 2 | Bounds -> 3 end do let a = (1, true) in Some a do (Nil, ~5) end")

    def alike(self, other, one=None):
        one, other = parse(one or self.ONE), parse(other)
        self.assertEqual(are_alike_but_names(one, other), are_alike_but_names(other, one))
        return are_alike_but_names(one, other)

    def test_other_names(self):
        other = ("module K show P, n = type s('y, 'x) = P of 'y * int | Q of 'x type t = C of s(int, bool) exception G of t "
                 "let a = 1 rec n z = u a and u x = n x end module A = exception H let k = fn h -> match h with K.P (b, _) -> b | _ -> 5 end "
                 "do try K.n 1 with H -> 2 | Bounds -> 3 end do let q = (1, true) in Some q do (Nil, ~5) end")
        self.assertTrue(self.alike(other))
        self.assertTrue(self.alike(self.ONE))

    def test_one_thing_otherwise(self):
        for old, new in [
                ("~5", "~6"), ("true", "false"), ("('a, 'b)", "('b, 'a)"), ("t(int, bool)", "t(bool, int)"), ("| D of 'b", "| D of 'a"),
                ("(Nil, ~5)", "(None, ~5)"), ("F -> 2", "NoMatch -> 2"),
                ("Bounds -> 3", "NoMore -> 3"), ("f, C", "f, C, D"), ("f, C", "f, C, g"), ("Some a", "Some 1"),
                ("g x and", "g y and"), ("f z end", "g z end"), ("f z end", "f x end"), ("_ -> 5", "k -> 5"), ("_ -> 5", "_ -> 5 | _ -> 6"),
                ("(k, _) -> k", "(_, k) -> k"), ("let x = 1", "do 1 let x = 1"), ("exception F", "exception F do 1"),
                ("A.f 1", "raise F"), ("Some a", "(Some a; 1)"), ("let a = (1", "let a = (1, 1"), ("of u", "of int"), ("exception E of u", "exception E")]:
            self.assertIn(old, self.ONE)
            self.assertFalse(self.alike(self.ONE.replace(old, new)), (old, new))
        self.assertFalse(self.alike(self.ONE.replace("exception F", "exception F of int").replace("F -> 2", "F _ -> 2")))

    def test_prims_and_shows(self):
        same = lambda one, other: self.alike(f"module M {other} end", f"module M {one} end")
        self.assertFalse(same("= do 1 + 2", "= do 1 - 2"))
        self.assertFalse(same("= do 1 + 2", "= do 1 = 2"))
        self.assertTrue(same("= let a = 1 let b = 2", "= let b = 1 let a = 2"))
        self.assertFalse(same("= let a = 1 let b = a", "= let b = 1 let a = 1"))
        self.assertTrue(same("show a, b = let a = 1 let b = 2", "show b, a = let b = 1 let a = 2"))
        self.assertTrue(same("show b, a = let a = 1 let b = 2", "show b, a = let b = 1 let a = 2"))
        self.assertFalse(same("show a = let a = 1 let b = 2", "show b = let a = 1 let b = 2"))
        self.assertFalse(same("= let a = 1 let b = 2", "show () = let a = 1 let b = 2"))
        self.assertFalse(same("= do fn x -> fn y -> x", "= do fn x -> fn y -> y"))
        self.assertTrue(same("= do fn x -> fn y -> x", "= do fn y -> fn x -> y"))
        self.assertFalse(same("= do 1", "= do true"))
        self.assertFalse(same("= do 1", "= let a = 1"))
        self.assertFalse(same("= exception E do raise E", "= exception E do raise Bounds"))
        self.assertFalse(same("= type t = A | B do A", "= type t = A | B do B"))
        self.assertFalse(same("= type t = A of list(int)", "= type t = A of option(int)"))
        self.assertTrue(same("= type list = Nil do Nil", "= type t = A do A"))
        self.assertTrue(same("= type t = A type u = B of t let t = 1", "= type t = A type u = B of t let v = 1"))
        self.assertFalse(same("= type t = A type u = B of t let t = 1", "= type t = A type u = B of u let v = 1"))
        self.assertTrue(same("= do fn x -> x + 1 - (let a = x in a)", "= do fn y -> y + 1 - (let x = y in x)"))
        self.assertTrue(same("= do fn x -> match x with (a, Some b) -> a end", "= do fn y -> match y with (b, Some a) -> b end"))
        self.assertFalse(same("= do fn x -> match x with (a, Some b) -> a end", "= do fn y -> match y with (b, Some a) -> a end"))
        self.assertFalse(same("= do fn x -> match x with (a, _) -> 1 end", "= do fn x -> match x with (_, a) -> 1 end"))
        self.assertFalse(same("= type t('a) = A", "= type t = A"))
        self.assertFalse(same("= type t('a, 'b) = A", "= type t('a) = A"))
        for one, other in [("ref(int)", "ref(bool)"), ("array(unit)", "array(exn)"), ("int -> int", "int -> bool"), ("int -> int", "bool -> int"),
                           ("int * bool", "bool * int"), ("list(int)", "list(bool)"), ("ref(int)", "array(int)")]:
            self.assertFalse(same(f"= type t = A of {one}", f"= type t = A of {other}"))
            self.assertTrue(same(f"= type t = A of {one}", f"= type u = B of {one}"))
        self.assertFalse(same("= type list = Nil do Nil", "= type t = A do Nil"))
        self.assertFalse(self.alike("module M = end module N = end", "module M = end"))

    def test_alike_programs_run_alike(self):
        for seed in range(30):
            one, other = Typed(seed).program(4), Typed(seed, ["q", "r", "s", "t", "u", "v"]).program(4)
            if is_program(one) and is_program(other) and are_alike_but_names(one, other):
                self.assertEqual(run_plain(one, [1, 2], 50), run_plain(other, [1, 2], 50))


class TestTypes(unittest.TestCase):
    def types(self, text):
        program = parse(f"module M = {text} end")
        return {place: type_at(program, place) for place in places(program)}

    def test_in_general_declarations(self):
        a, b = ("unknown", 0), ("unknown", 1)
        self.assertEqual(self.types("let f = fn x -> fn y -> x"), {
            (0, 0): ("fun", a, ("fun", b, a)), (0, 0, 0): ("fun", a, b), (0, 0, 0, 0): a})
        found = self.types("rec f x = (g x, x) and g y = let i = fn z -> z in i (i 1)")
        self.assertEqual(found[(0, 0, 0)], ("tuple", (("int",), a)))
        self.assertEqual(found[(0, 0, 1, 0)], ("fun", a, a))
        self.assertEqual(found[(0, 0, 1, 1, 0)], ("fun", ("int",), ("int",)))
        found = self.types("let f = fn x -> (fn y -> 1) (raise Bounds) let g = fn x -> array(0, Nil)")
        self.assertEqual(found[(0, 0, 0, 0)], ("fun", a, ("int",)))
        self.assertEqual(found[(0, 0, 0, 1)], a)
        self.assertEqual(found[(0, 1)], ("fun", a, ("array", ("data", "list", (b,)))))

    def test_in_others(self):
        unit = ("unit",)
        self.assertEqual(self.types("do fn x -> x"), {(0, 0): ("fun", unit, unit), (0, 0, 0): unit})
        found = self.types("do let i = fn x -> x in (i 1, i)")
        self.assertEqual((found[(0, 0, 0)], found[(0, 0, 1, 0, 0)], found[(0, 0, 1, 1)]),
                         (("fun", unit, unit), ("fun", ("int",), ("int",)), ("fun", unit, unit)))
        self.assertEqual(self.types("let r = ref(Nil)")[(0, 0, 0)], ("data", "list", (unit,)))
        self.assertEqual(self.types("do raise Bounds")[(0, 0)], unit)

    def test_later_declarations_tell(self):
        found = self.types("let r = ref(Nil) let s = r let f = fn x -> (x, r) do r := Cons (true, Nil)")
        told = parse_type("ref(list(bool))")
        self.assertEqual((found[(0, 0)], found[(0, 1)], found[(0, 2, 0)]),
                         (told, told, ("tuple", (("unknown", 0), told))))
        found = self.types("let r = ref(Nil) let f = fn x -> fn y -> (y, !r)")
        self.assertEqual(found[(0, 1)], ("fun", ("unknown", 0), ("fun", ("unknown", 1), ("tuple", (
            ("unknown", 1), ("data", "list", (("unit",),)))))))

    def test_like_the_naive_finding(self):
        texts = ["let r = ref(Nil) let f = fn x -> !r rec g y = (y, r)",
                 "rec map f = fn xs -> match xs with Nil -> Nil | Cons (x, r) -> Cons (f x, map f r) end let m = map do m",
                 "let k = fn x -> let g = fn y -> (x, y) in (g 1, g true) do let h = (fn x -> x) (fn y -> y) in h",
                 "type t('a) = A of 'a | B let z = A B let w = fn q -> match q with A (A v) -> v | _ -> raise Bounds end do try w B with _ -> B end"]
        programs = [parse(f"module M = {text} end") for text in texts]
        programs += [program for program in [Typed(seed).program(4) for seed in range(12)] if is_program(program)]
        for program in programs:
            types = naive_types(resolved(program))
            self.assertTrue(is_accepted(program))
            for place, told in list(zip(places(program), types))[::1 if len(types) < 60 else 5]:
                self.assertEqual(keeps(self, type_at, program, place), told)

    def test_like_the_schemes(self):
        program = parse("module M = let f = fn x -> fn y -> (y, Some x) rec g x = g x end")
        self.assertEqual(general(type_at(program, (0, 0))), schemes(resolved(program))[0][1])

    def test_not_accepted(self):
        program = parse("module M = do 1 do 1 + true end")
        self.assertEqual(type(error_of(type_at, program, (0, 0))), NotAccepted)
        self.assertEqual(type(error_of(type_at, program, (0, 7))), InvalidPlace)


if __name__ == "__main__":
    unittest.main()
