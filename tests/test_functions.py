"""Functions that are unfolded, folded and flipped: [251] to [256]."""

import random
import unittest

from checking import ODD, bad_for, error_of, keeps, look_at_errors
from running import parting_run
from typed import Typed

from changedsame.bindings import are_alike_but_names, binders
from changedsame.errors import InvalidChange, InvalidPlace, InvalidProgram, InvalidUse, NotAccepted, TooMany
from changedsame.functions import decided_function, function_plain, given_function, is_function_change, parameters_at
from changedsame.infer import is_accepted
from changedsame.parser import parse, parse_expr
from changedsame.places import expr_at, places
from changedsame.printer import program_text
from changedsame.renames import meanings, renamed_plain
from changedsame.spots import all_exprs
from changedsame.trees import is_program

MANY = ("module A show f, g, k, C, even, two = type t = C of int | D let k = 1 let hid = 2 let f = fn x -> match x with C y -> y + k | _ -> 0 end "
        "let g = fn x -> hid + x rec even n = if n = 0 then true else odd (n - 1) and odd n = not(even n) let two = fn a -> fn b -> (a, b) end "
        "module B = let r = ref(1) let h = fn q -> A.f (A.C q) do h 1 do (fn z -> z + 1) 2 do A.f (A.C 1) do A.g 1 do A.even 3 "
        "do let m = fn w -> !r + w in m 4 do rec s i = t i and t j = s j in t 5 do match h with u -> u 1 end do (h 1; A.two) 1 2 end")


def unique(program):
    """The program with another name for each local one."""
    for k, binder in enumerate(binder for binder in binders(program) if binder[0] == "local"):
        program = renamed_plain(program, ("rename local", binder[1], binder[2], f"zz{k}"))
    return program


class TestGiven(unittest.TestCase):
    def test_each_kind(self):
        program = parse(MANY)
        for place, told in [
                ((1, 2, 0), ("q", "A.f (A.C q)")), ((1, 4, 0), ("x", "match x with A.C y -> y + A.k | _ -> 0 end")), ((1, 5, 0), ("x", "A.hid + x")),
                ((1, 6, 0), ("n", "if n = 0 then true else A.odd (n - 1)")), ((1, 7, 1, 0), ("w", "!r + w")), ((1, 7, 0, 0, 0, 0), None),
                ((1, 8, 2, 0), ("j", "s j")), ((1, 8, 0, 0), ("j", "s j")), ((1, 8, 1, 0), ("i", "t i")), ((1, 8, 0, 1), None), ((1, 9, 1, 0), None),
                ((0, 5, 0, 2, 0), ("n", "not(even n)")), ((0, 5, 0, 2, 1, 0), None), ((0, 3, 0, 0), None), ((1, 10, 0, 0, 1), ("a", "fn b -> (a, b)"))]:
            found = keeps(self, given_function, program, place)
            self.assertEqual(found, told and (told[0], parse_expr(told[1])), place)

    def test_of_modules_with_like_names(self):
        program = parse("module A = let f = fn x -> 1 rec g y = 2 end module B = let g = fn z -> 3 rec f w = 4 do (f 1, g 1, A.f 1, A.g 1) end")
        self.assertEqual([given_function(program, (1, 2, k, 0)) for k in range(4)], [("w", ("int", 4)), ("z", ("int", 3)), ("x", ("int", 1)), ("y", ("int", 2))])

    def test_of_the_same_module_as_it_stands(self):
        program = parse("module M = let a = 1 let f = fn x -> (a, Nil, x) do fn a -> f a end")
        self.assertEqual(given_function(program, (0, 2, 0, 0)), ("x", parse_expr("(a, Nil, x)")))
        program = parse("module M = let x = fn u -> u do let x = x in x end")
        self.assertEqual(given_function(program, (0, 1, 0)), ("u", ("var", "u")))
        self.assertIsNone(given_function(program, (0, 1, 1)))

    def test_errors(self):
        program = parse(MANY)
        look_at_errors(self, given_function, [("program", program), ("place", (1, 2, 0))], [
            ("program", InvalidProgram, bad_for(is_program)), ("place", InvalidPlace, [value for value in ODD] + [(1, 0, 1), (0, 0), [1, 2, 0]])])
        look_at_errors(self, parameters_at, [("program", program), ("place", (1, 2, 0))], [
            ("program", InvalidProgram, bad_for(is_program)), ("place", InvalidPlace, [value for value in ODD] + [(1, 0, 1), (0, 0), [1, 2, 0]])])
        for place in ((1, 2), (0, 1), (1, 7), (1, 4, 1)):
            error = error_of(given_function, program, place)
            self.assertEqual((type(error), error.value), (InvalidUse, place))
        bad = parse("module M = do 1 + true end")
        for call in (given_function, parameters_at):
            for place in ((0, 0), (9, 9), None):
                self.assertIs(type(error_of(call, bad, place)), NotAccepted)


class TestFits(unittest.TestCase):
    def test_what_fits(self):
        program = parse(MANY)
        calls = [(1, 2), (1, 3), (1, 4), (1, 5), (1, 6), (1, 7, 1), (1, 8, 2), (1, 8, 0), (1, 8, 1), (0, 5, 0, 2), (1, 1, 0), (1, 10, 0, 0)]
        for place in places(program):
            is_call = expr_at(program, place)[0] == "call" and expr_at(program, place + (0,))[0] in ("var", "fn")
            fits = is_call and place != (1, 9, 1)
            self.assertIs(is_function_change(program, ("unfold", place)), fits, place)
            self.assertIs(is_function_change(program, ("fold", place, "q")), True)
        for place in calls:
            if expr_at(program, place)[0] == "call" and expr_at(program, place)[1][0] != "seq":
                self.assertIs(keeps(self, is_function_change, program, ("unfold", place)), True, place)
        for value in ODD + [
                ("unfold", (1, 7)), ("unfold", (9, 9)), ("unfold", (1, 2), 1), ["unfold", (1, 2)], ("fold", (1, 2)), ("fold", (1, 2), "A"), ("fold", (1, 2), "M.q"),
                ("fold", (1, 2), None), ("fold", (1, 2), "fn"), ("fold", (1, 0, 1), "q"), ("fold", (0, 0), "q"), ("flip", "A.f"), ("flip", "A.k"), ("flip", "two"),
                ("flip", None), ("flip", ["A.two"]), ("flip", "A.two", 1), ("flip", "A.C"), ("flip", "A.t"), ("flip",), ("unfold",), ("unfold", "A.f"), ("swap", (1, 2)), ("unfold", (1, True))]:
            self.assertIs(is_function_change(program, value), False, value)
        self.assertIs(keeps(self, is_function_change, program, ("flip", "A.two")), True)
        rec = parse("module M = rec f x = fn y -> x + y and g x = x let h = (fn x -> fn y -> 1, 2) let k = let a = 1 in fn x -> fn y -> 1 end")
        self.assertEqual([is_function_change(rec, ("flip", name)) for name in ("M.f", "M.g", "M.h", "M.k")], [True, False, False, False])

    def test_errors(self):
        program = parse(MANY)
        look_at_errors(self, is_function_change, [("program", program), ("value", 1)], [("program", InvalidProgram, bad_for(is_program))])
        bad = ODD + [("unfold", (1, 7)), ("flip", "A.f"), ("fold", (1, 2), "B.q")]
        for call in (function_plain, decided_function):
            look_at_errors(self, call, [("program", program), ("change", ("unfold", (1, 2)))], [
                ("program", InvalidProgram, bad_for(is_program)), ("change", InvalidChange, bad)])
        for text in ("do 1 + true", "do z"):
            for call in (is_function_change, function_plain, decided_function):
                self.assertIs(type(error_of(call, parse(f"module M = {text} end"), None)), NotAccepted)

    def test_too_large(self):
        big = ("unit",)
        for _ in range(3):
            big = ("tuple", (big,) * 4)

        def program(many):
            return (("module", "M", None, (("let", "f", ("fn", "x", ("tuple", (big, big)))), ("do", ("call", ("var", "f"), ("unit",)))) + (("do", ("unit",)),) * 3),) + tuple(
                ("module", f"N{k}", None, (("do", ("tuple", (("unit",),) * 4)),) * 7 + (("do", ("unit",)),) * many[k]) for k in range(5))

        for many, error in [((3, 4, 4, 4, 0), None), ((3, 4, 4, 4, 1), TooMany)]:
            full = program(many)
            self.assertTrue(is_program(full))
            for call in (function_plain, decided_function):
                found = error_of(call, full, ("unfold", (0, 1)))
                self.assertIs(type(found), error or type(None))
                if error:
                    self.assertEqual((found.what, found.limit), ("parts", 600))
        deep = ("unit",)
        for _ in range(38):
            deep = ("con", "Some", deep)
        for call in (function_plain, decided_function):
            error = error_of(call, (("module", "M", None, (("do", ("con", "Some", deep)),)),), ("fold", (0, 0, 0), "f"))
            self.assertEqual((type(error), error.what, error.limit), (TooMany, "depth", 40))
            for change in (("unfold", (0, 0, 0)), ("fold", (0, 0, 0)), ("flip", "M.x")):
                self.assertIs(type(error_of(call, (("module", "M", None, (("do", ("con", "Some", deep)),)),), change)), InvalidChange)


class TestChanges(unittest.TestCase):
    def look(self, text, change, wanted):
        """wanted: the text of the plain result if it is taken, or a tuple (text, reason)."""
        program = parse(text)
        result, reason = wanted if isinstance(wanted, tuple) else (wanted, None)
        plain = keeps(self, function_plain, program, change)
        if result is not None:
            self.assertEqual(program_text(plain), program_text(parse(result)))
        told = keeps(self, decided_function, program, change)
        self.assertEqual(told, ("taken", plain) if reason is None else ("refused", reason), change)
        if reason is None:
            self.assertIsNone(parting_run(program, plain, random.Random(2)))
        elif reason[0] == "clash":
            self.assertEqual(dict(meanings(plain))[reason[1]], reason[3])

    def test_unfold(self):
        for text, place, wanted in [
                ("module M = do (fn x -> x + 1) (ask()) end", (0, 0), "module M = do let x = ask() in x + 1 end"),
                ("module M = let f = fn x -> x + 1 do f (f 2) end", (0, 1), "module M = let f = fn x -> x + 1 do let x = f 2 in x + 1 end"),
                ("module M = let f = fn x -> x + 1 do f (f 2) end", (0, 1, 1), "module M = let f = fn x -> x + 1 do f (let x = 2 in x + 1) end"),
                ("module M = rec f x = if x = 0 then 0 else f (x - 1) do f 3 end", (0, 1), "module M = rec f x = if x = 0 then 0 else f (x - 1) do let x = 3 in if x = 0 then 0 else f (x - 1) end"),
                ("module M = rec f x = if x = 0 then 0 else f (x - 1) do f 3 end", (0, 0, 0, 2),
                 "module M = rec f x = if x = 0 then 0 else let x = x - 1 in if x = 0 then 0 else f (x - 1) do f 3 end"),
                ("module M = do let f = fn x -> x + 1 in fn x -> f x end", (0, 0, 1, 0), "module M = do let f = fn x -> x + 1 in fn x -> let x = x in x + 1 end"),
                ("module M = do rec f x = g x and g y = f (y + 1) in g 1 end", (0, 0, 0), "module M = do rec f x = (let y = x in f (y + 1)) and g y = f (y + 1) in g 1 end"),
                ("module M = do let y = 1 in let f = fn x -> x + y in fn y -> f 2 end", (0, 0, 1, 1, 0),
                 ("module M = do let y = 1 in let f = fn x -> x + y in fn y -> let x = 2 in x + y end", ("clash", (0, 0, 1, 1, 0, 1, 1), ("local", (0, 0), 0), ("local", (0, 0, 1, 1), 0)))),
                ("module M = let y = 1 let f = fn x -> x + y do fn y -> f y end", (0, 2, 0),
                 ("module M = let y = 1 let f = fn x -> x + y do fn y -> let x = y in x + y end", ("clash", (0, 2, 0, 1, 1), "M.y", ("local", (0, 2), 0)))),
                ("module M = let f = fn x -> Nil type t = Nil do f 1 end", (0, 2), ("module M = let f = fn x -> Nil type t = Nil do let x = 1 in Nil end", ("clash", (0, 2, 1), "Nil", "M.Nil"))),
                ("module M = let f = fn x -> match x with Some y -> y | None -> 1 end type t = Some of int | None do f (A1) end".replace("(A1)", "2").replace("f 2", "fn z -> z"), (0, 0), None),
                ("module M = let f = fn x -> match x with Nil -> 1 | _ -> 2 end let z = Nil type t = Nil of int do f z end", (0, 3),
                 ("module M = let f = fn x -> match x with Nil -> 1 | _ -> 2 end let z = Nil type t = Nil of int do let x = z in match x with Nil -> 1 | _ -> 2 end end", ("fault", "wrong argument", "Nil"))),
                ("module M = let f = fn x -> match x with Nil -> 1 | _ -> 2 end let z = Nil type t = Nil | O do f z end", (0, 3),
                 (None, ("clash", (0, 3, 1), ("Nil",), ("M.Nil",)))),
                ("module A show f = let h = 1 let f = fn x -> x + h end module B = do A.f 1 end", (1, 0),
                 ("module A show f = let h = 1 let f = fn x -> x + h end module B = do let x = 1 in x + A.h end", ("fault", "not shown", "A.h"))),
                ("module A = let h = 1 exception E let f = fn x -> try raise E with E -> x + h | r -> 2 end end module B = let h = 5 do A.f h end", (1, 1),
                 "module A = let h = 1 exception E let f = fn x -> try raise E with E -> x + h | r -> 2 end end module B = let h = 5 do let x = h in try raise A.E with A.E -> x + A.h | r -> 2 end end"),
                ("module Z = let p = 7 end module A = let h = Z.p let f = fn x -> (h, Z.p, x) end module B = do A.f 1 end", (2, 0),
                 "module Z = let p = 7 end module A = let h = Z.p let f = fn x -> (h, Z.p, x) end module B = do let x = 1 in (A.h, Z.p, x) end"),
                ("module A = let h = 1 let f = fn x -> let h = x in h end module B = do A.f 2 end", (1, 0),
                 "module A = let h = 1 let f = fn x -> let h = x in h end module B = do let x = 2 in let h = x in h end"),
                ("module A = let f = fn x -> Nil end module B = type t = Nil do A.f 1 end", (1, 1), (None, ("clash", (1, 1, 1), "Nil", "B.Nil")))]:
            if wanted is not None:
                self.look(text, ("unfold", place), wanted)

    def test_arguments_keep_their_meaning(self):
        self.look("module M = let x = 5 let f = fn x -> x do f x end", ("unfold", (0, 2)), "module M = let x = 5 let f = fn x -> x do let x = x in x end")
        self.look("module M = do fn x -> (fn x -> fn y -> x) (fn z -> (x, z)) end", ("unfold", (0, 0, 0)), "module M = do fn x -> let x = fn z -> (x, z) in fn y -> x end")

    def test_fold(self):
        for text, place, name, wanted in [
                ("module M = do tell(ask()) end", (0, 0, 0), "f", "module M = do tell(let f = fn x -> ask() in f ()) end"),
                ("module M = let x = 1 do x + 1 end", (0, 1), "f", "module M = let x = 1 do let f = fn x0 -> x + 1 in f () end"),
                ("module M = let x = 1 let x0 = 1 do x + x0 end", (0, 2), "f", "module M = let x = 1 let x0 = 1 do let f = fn x1 -> x + x0 in f () end"),
                ("module M = let x0 = 1 do x0 end", (0, 1), "f", "module M = let x0 = 1 do let f = fn x -> x0 in f () end"),
                ("module M = do fn a -> fn b -> b + a - b end", (0, 0, 0, 0), "f", "module M = do fn a -> fn b -> let f = fn b -> fn a -> b + a - b in f b a end"),
                ("module M = do fn a -> fn b -> b + a - b end", (0, 0, 0, 0, 0), "f", "module M = do fn a -> fn b -> (let f = fn b -> fn a -> b + a in f b a) - b end"),
                ("module M = let g = 1 rec k p = let l = p in match l with Some (q, _) -> (g, l, p, q) | _ -> (g, l, p, 1) end end", (0, 1, 0, 1, 1), "f",
                 "module M = let g = 1 rec k p = let l = p in match l with Some (q, _) -> let f = fn p -> fn q -> (g, l, p, q) in f p q | _ -> (g, l, p, 1) end end"),
                ("module M = do rec g p = g p and h q = (q, g) in h 1 end", (0, 0, 1), "f", "module M = do rec g p = g p and h q = (let f = fn q -> (q, g) in f q) in h 1 end"),
                ("module M = do rec g p = g p in (g, 1) end", (0, 0, 1), "g", "module M = do rec g p = g p in let g = fn x -> (g, 1) in g () end"),
                ("module M = do try 1 with r -> raise r end end", (0, 0, 1), "r", (None, ("clash", (0, 0, 1, 1, 1), ("local", (0, 0), 0), ("local", (0, 0, 1), 0)))),
                ("module M = do fn a -> fn b -> a + b end", (0, 0, 0, 0), "b", (None, ("clash", (0, 0, 0, 0, 1, 1), ("local", (0, 0, 0), 0), ("local", (0, 0, 0, 0), 0)))),
                ("module M = do fn a -> fn b -> a + b end", (0, 0, 0, 0), "a", (None, ("clash", (0, 0, 0, 0, 1, 0, 1), ("local", (0, 0), 0), ("local", (0, 0, 0, 0), 0)))),
                ("module M = let f = 1 do f + 1 end", (0, 1), "f", "module M = let f = 1 do let f = fn x -> f + 1 in f () end"),
                ("module M = let i = fn x -> x do (i 1, i true) end", (0, 0), "f", (None, ("untyped", 1))),
                ("module M = let i = fn x -> x do i 1 end", (0, 0), "f", "module M = let i = let f = fn x -> fn x -> x in f () do i 1 end"),
                ("module M = do let i = fn x -> x in (i 1, i true) end", (0, 0, 0), "f", (None, ("untyped", 0))),
                ("module M = do fn a -> fn a -> a end", (0, 0, 0, 0), "f", "module M = do fn a -> fn a -> let f = fn a -> a in f a end"),
                ("module M = do fn a -> let a = a in a end", (0, 0, 0, 1), "f", "module M = do fn a -> let a = a in let f = fn x -> a in f () end"),
                ("module M = do fn a -> match a with (b, c) -> fn d -> (let e = c in (e, d, a)) end end", (0, 0, 0, 1, 0), "f",
                 "module M = do fn a -> match a with (b, c) -> fn d -> let f = fn c -> fn d -> fn a -> let e = c in (e, d, a) in f c d a end end")]:
            self.look(text, ("fold", place, name), wanted)
            told = [text for text in [wanted] if isinstance(text, str)]
            self.assertIsInstance(keeps(self, parameters_at, parse(text), place), list)
            self.assertLessEqual(len(told), 1)

    def test_parameters(self):
        program = parse("module M = let k = 1 rec g p = match p with (a, b) -> let l = a in fn q -> (q, l, (b, a, g k), q) end end")
        for place, told in [((0, 1, 0, 1, 1, 0), ["q", "b", "a"]), ((0, 1, 0, 1, 1), ["b", "a"]), ((0, 1, 0, 1), ["a", "b"]), ((0, 1, 0), ["p"]), ((0, 1, 0, 0), ["p"])]:
            if is_accepted(program):
                self.assertEqual(keeps(self, parameters_at, program, place), told, place)
        program = parse("module M = let k = 1 rec g p = match p with (a, b) -> let l = a in fn q -> (q, l, (b, a, k), q) end end")
        for place, told in [((0, 1, 0, 1, 1, 0), ["q", "b", "a"]), ((0, 1, 0, 1, 1), ["b", "a"]), ((0, 1, 0, 1), ["a", "b"]), ((0, 1, 0), ["p"]), ((0, 1, 0, 0), ["p"]), ((0, 0), [])]:
            self.assertEqual(keeps(self, parameters_at, program, place), told, place)

    def test_flip(self):
        sub = "let f = fn x -> fn y -> x - y"
        turned = "let f = fn y -> fn x -> x - y"
        for text, name, wanted in [
                (f"module M = {sub} do f 1 2 end", "f", f"module M = {turned} do f 2 1 end"),
                (f"module M = {sub} do f (ask()) 2 do f 2 (ask()) do f (ask()) (ask()) end", "f",
                 f"module M = {turned} do f 2 (ask()) do f (ask()) 2 do let v = ask() in f (ask()) v end"),
                (f"module M = {sub} do f (f 1 2) (f 3 4) end", "f", f"module M = {turned} do let v = f 2 1 in f (f 4 3) v end"),
                (f"module M = {sub} let v = 5 do f (f v (ask())) (f (ask()) v) end", "f", f"module M = {turned} let v = 5 do let v0 = f (ask()) v in f (f v (ask())) v0 end"),
                (f"module M = {sub} do fn v0 -> fn v -> f (v + v0) (ask()) end", "f", f"module M = {turned} do fn v0 -> fn v -> let v1 = v + v0 in f (ask()) v1 end"),
                (f"module M = {sub} do f (fn q -> f 1 q; 2) (fn z -> z) end".replace("(fn q -> f 1 q; 2)", "((fn q -> f 1 q) 3)").replace("(fn z -> z)", "(f 4 5)"), "f",
                 f"module M = {turned} do let v = (fn q -> f q 1) 3 in f (f 5 4) v end"),
                ("module M = rec f n = fn a -> if n = 0 then a else f (n - 1) (a + n) do tell(f 3 0) end", "f",
                 "module M = rec f a = fn n -> if n = 0 then a else let v = n - 1 in f (a + n) v do tell(f 0 3) end"),
                ("module M = rec g x = f x x and f n = fn g -> g do f 1 2 end", "f", "module M = rec g x = f x x and f g = fn n -> g do f 2 1 end"),
                ("module M = rec v n = fn a -> n do v (ask()) (ask()) end", "v", "module M = rec v a = fn n -> n do let v0 = ask() in v (ask()) v0 end"),
                ("module A = let f = fn x -> fn y -> x end module B = do A.f 1 2 end", "A.f", "module A = let f = fn y -> fn x -> x end module B = do A.f 2 1 end"),
                (f"module M = {sub} do f 1 2 3 end".replace("x - y", "fn z -> x"), "f", f"module M = {turned} do f 2 1 3 end".replace("x - y", "fn z -> x")),
                ("module M = let f = fn x -> fn x -> x do f 1 2 end", "f", ("module M = let f = fn x -> fn x -> x do f 2 1 end", ("fault", "twice", "x"))),
                (f"module M = {sub} do f 1 2 do f do f 3 end", "f", (f"module M = {turned} do f 2 1 do f do f 3 end", ("use", (0, 2)))),
                (f"module M = {sub} do f 1 2 do f 3 do f end", "f", (f"module M = {turned} do f 2 1 do f 3 do f end", ("use", (0, 2, 0)))),
                (f"module M = {sub} do (fn g -> 1) f end", "f", (f"module M = {turned} do (fn g -> 1) f end", ("use", (0, 1, 1)))),
                (f"module M = {sub} do f 1 (f 2) end".replace("x - y", "1"), "f", (f"module M = {turned} do f (f 2) 1 end".replace("x - y", "1"), ("use", (0, 1, 1, 0)))),
                ("module M = let f = fn x -> fn x -> x do f end", "f", ("module M = let f = fn x -> fn x -> x do f end", ("fault", "twice", "x"))),
                ("module M = rec f x = fn y -> f do f 1 end".replace("-> f do", "-> f x y do"), "f", ("module M = rec f y = fn x -> f y x do f 1 end", ("use", (0, 1, 0)))),
                (f"module M = {sub} do let v = f 1 2 in f (v + 1) (v + 2) end", "f", f"module M = {turned} do let v = f 2 1 in let v0 = v + 1 in f (v + 2) v0 end"),
                (f"module M = {sub} do match f 1 with q -> 2 end end", "f", (f"module M = {turned} do match f 1 with q -> 2 end end", ("use", (0, 1, 0, 0)))), (f"module M = {sub} do Some (f 1) end", "f", (f"module M = {turned} do Some (f 1) end", ("use", (0, 1, 0, 0)))),
                (f"module M = {sub} do (match f with g -> g end) 1 end", "f", (f"module M = {turned} do (match f with g -> g end) 1 end", ("use", (0, 1, 0, 0)))), (f"module M = {sub} do (f; 1) + 2 end", "f", (f"module M = {turned} do (f; 1) + 2 end", ("use", (0, 1, 0, 0)))),
                (f"module M = {sub} let g = f do g 1 2 end", "f", (f"module M = {turned} let g = f do g 1 2 end", ("use", (0, 1)))),
                (f"module M = {sub} do fn f -> f 1 2 end", "f", f"module M = {turned} do fn f -> f 1 2 end")]:
            self.look(text, ("flip", name if "." in name else f"M.{name}"), wanted)


class TestRandom(unittest.TestCase):
    def test_folds_and_unfolds(self):
        seen = {}
        for seed in range(45):
            rand = random.Random(seed)
            program = Typed(seed).program(3, 2, 2)
            if not is_accepted(program):
                continue
            apart = unique(program)
            self.assertTrue(are_alike_but_names(program, apart))
            exprs = all_exprs(program)
            changes = [("unfold", place) for place, expr in exprs if is_function_change(program, ("unfold", place))]
            changes += [("fold", place, rand.choice(["a", "x", "f", "q"])) for place, _ in rand.sample(exprs, min(len(exprs), 8))]
            for change in changes:
                if error_of(function_plain, program, change):
                    continue
                told = decided_function(program, change)
                other = function_plain(apart, change if change[0] == "unfold" else change[:2] + ("zzz",))
                plain = function_plain(program, change)
                is_same = False if told[0] == "refused" and told[1][0] == "fault" else are_alike_but_names(plain, other)
                if told[0] == "taken" or told[1][0] == "untyped":
                    self.assertTrue(is_same, (seed, change))
                elif told[1][0] == "clash":
                    self.assertFalse(is_same and "Nil" not in repr(told), (seed, change))
                    self.assertEqual(dict(meanings(plain))[told[1][1]], told[1][3])
                if told[0] == "taken":
                    self.assertIsNone(parting_run(program, told[1], rand, tries=2), (seed, change))
                key = (change[0], told[0])
                seen[key] = seen.get(key, 0) + 1
        self.assertGreater(min(seen[key] for key in (("fold", "taken"), ("unfold", "taken"), ("fold", "refused"))), 3)

    def test_unfolding_what_was_folded(self):
        for seed in range(12):
            program = Typed(seed).program(3, 1, 2)
            if not is_accepted(program):
                continue
            for place, expr in all_exprs(program)[::5]:
                told = decided_function(program, ("fold", place, "zz")) if not error_of(function_plain, program, ("fold", place, "zz")) else ("refused",)
                if told[0] == "taken":
                    many = len(parameters_at(program, place))
                    self.assertEqual(expr_at(told[1], place)[2 if many else 2][0], "fn")
                    self.assertEqual(expr_at(told[1], place + (0,) * (max(many, 1) + 1)), expr)


if __name__ == "__main__":
    unittest.main()
