"""Types of programs: [33] to [38]."""

import random
import unittest

from checking import bad_for, keeps, look_at_errors
from making import Maker
from naive import naive_schemes

from changedsame.errors import (
    Clash, InvalidExpr, InvalidWhole, NotBound, NotShown, WrongArgument)
from changedsame.infer import first_clash, is_accepted, scheme_of, schemes
from changedsame.kinds import is_scheme, scheme_text
from changedsame.parser import parse, parse_expr
from changedsame.trees import is_expr, is_program
from changedsame.wholes import resolved

HEAD = ("module A = type t('a) = C of 'a | D type s('a, 'b) = P of 'a * 'b | Q of 'a -> 'b exception E of int "
        "exception F let k = fn x -> fn y -> x let one = ref(Nil) let wild = ref(fn x -> raise NoMore) end ")


def whole_of(text):
    return resolved(parse(text))


class TestSchemes(unittest.TestCase):
    def types(self, text, told):
        """The types of the values of a module M."""
        whole = whole_of(HEAD + "module M = " + text + " end")
        found = [(name[2:], scheme_text(scheme)) for name, scheme in schemes(whole) if name.startswith("M.")]
        self.assertEqual(found, told, text)
        self.assertTrue(all([is_scheme(scheme) for _, scheme in schemes(whole)]))

    def clashes(self, text, position=0):
        whole = whole_of("module M = " + text + " end")
        self.assertEqual(first_clash(whole), position, text)
        with self.assertRaises(Clash) as caught:
            schemes(whole)
        self.assertEqual(caught.exception.position, position)
        self.assertIs(is_accepted(parse("module M = " + text + " end")), False)

    def test_each_form(self):
        for text, told in (
                ("1", "int"), ("true", "bool"), ("()", "unit"), ("Nil", "list('a)"), ("Some 1", "option(int)"), ("DivZero", "exn"),
                ("A.E 1", "exn"), ("A.C true", "A.t(bool)"), ("A.D", "A.t('a)"), ("A.P (1, true)", "A.s(int, bool)"),
                ("A.Q (fn x -> 1)", "A.s('a, int)"), ("fn x -> x", "'a -> 'a"), ("fn x -> fn y -> x", "'a -> 'b -> 'a"),
                ("fn f -> f 1", "(int -> 'a) -> 'a"), ("fn f -> fn x -> f (f x)", "('a -> 'a) -> 'a -> 'a"), ("A.k 1 true", "int"),
                ("let x = 1 in x", "int"), ("rec f x = f x in f", "'a -> 'b"), ("rec f x = x and g x = f 1 in g true", "int"),
                ("if true then 1 else 2", "int"), ("fn x -> if x then 1 else 2", "bool -> int"), ("(1, true, ())", "int * bool * unit"),
                ("1; true", "bool"), ("fn x -> raise x", "exn -> 'a"), ("fn x -> (raise A.F) + 1", "'a -> int"),
                ("try 1 with A.E n -> n | DivZero -> 2 | _ -> 3 end", "int"), ("match Some 1 with Some x -> x | None -> 0 end", "int"),
                ("fn x -> match x with (a, true) -> a | (_, b) -> 1 end", "int * bool -> int"),
                ("fn x -> match x with Cons (a, Nil) -> a | Cons (_, r) -> 1 | Nil -> 2 end", "list(int) -> int"),
                ("fn x -> match x with 1 -> true | y -> y = 2 end", "int -> bool"), ("fn x -> match x with () -> 1 end", "unit -> int"),
                ("fn x -> match x with A.Q f -> f | A.P (a, b) -> fn y -> b end", "A.s('a, 'b) -> 'a -> 'b"),
                ("fn x -> match x with _ -> 1 end", "'a -> int")):
            self.types("let v = fn z -> " + text, [("v", self.behind(told))])
            if self.is_written_value(text):
                self.types("let v = " + text, [("v", told)])

    def is_written_value(self, text):
        return text.startswith("fn") or text in ("1", "true", "()", "Nil", "Some 1", "DivZero", "A.E 1", "A.C true", "A.D",
                                                 "A.P (1, true)", "A.Q (fn x -> 1)", "(1, true, ())")

    def behind(self, told):
        """The type behind an argument of any type, whose letter is the first one."""
        letters = "abcdef"
        for k in range(4, -1, -1):
            told = told.replace("'" + letters[k], "'" + letters[k + 1])
        return "'a -> " + told

    def test_prims(self):
        for text, told in (
                ("fn x -> fn y -> x + y", "int -> int -> int"), ("fn x -> fn y -> x - y * x / y mod x", "int -> int -> int"),
                ("fn x -> fn y -> x = y", "int -> int -> bool"), ("fn x -> fn y -> x < y", "int -> int -> bool"),
                ("fn x -> fn y -> x <= y", "int -> int -> bool"), ("fn x -> not(x)", "bool -> bool"), ("fn x -> ref(x)", "'a -> ref('a)"),
                ("fn x -> !x", "ref('a) -> 'a"), ("fn x -> fn y -> x := y", "ref('a) -> 'a -> unit"),
                ("fn x -> fn y -> same(x, y)", "ref('a) -> ref('a) -> bool"), ("fn x -> fn y -> array(x, y)", "int -> 'a -> array('a)"),
                ("fn x -> fn y -> at(x, y)", "array('a) -> int -> 'a"),
                ("fn x -> fn y -> fn z -> place(x, y, z)", "array('a) -> int -> 'a -> unit"), ("fn x -> size(x)", "array('a) -> int"),
                ("fn x -> tell(x)", "int -> unit"), ("fn x -> ask()", "'a -> int")):
            self.types("let v = " + text, [("v", told)])

    def test_values_have_many_types(self):
        self.types("let i = fn x -> x let j = i let p = (i, Nil, fn x -> 1) let c = Some i do (i 1, i true)",
                   [("i", "'a -> 'a"), ("j", "'a -> 'a"), ("p", "('a -> 'a) * list('b) * ('c -> int)"), ("c", "option('a -> 'a)")])
        self.types("let i = fn x -> x let j = i i let k = (i, i i) let n = let x = 1 in Nil",
                   [("i", "'a -> 'a"), ("j", "unit -> unit"), ("k", "(unit -> unit) * (unit -> unit)"), ("n", "list(unit)")])
        self.types("let c = ref(Nil) let f = fn x -> (x, !c) let d = c let e = (c, Nil)",
                   [("c", "ref(list(unit))"), ("f", "'a -> 'a * list(unit)"), ("d", "ref(list(unit))"),
                    ("e", "ref(list(unit)) * list('a)")])
        self.types("let p = (raise DivZero) let q = Some (raise DivZero) let r = Some (fn x -> raise DivZero)",
                   [("p", "unit"), ("q", "option(unit)"), ("r", "option('a -> 'b)")])

    def test_local_lets(self):
        self.types("let f = fn x -> let i = fn y -> y in (i 1, i true, i x)", [("f", "'a -> int * bool * 'a")])
        self.types("let f = fn x -> let i = fn y -> (x, y) in (i 1, i true)", [("f", "'a -> ('a * int) * ('a * bool)")])
        self.types("let f = fn x -> rec i y = y in (i 1, i x)", [("f", "'a -> int * 'a")])
        self.types("let f = fn x -> let y = ref(Nil) in (y := Cons (x, Nil); !y)", [("f", "'a -> list('a)")])
        self.types("let f = fn x -> let p = (x, fn y -> y) in p", [("f", "'a -> 'a * ('b -> 'b)")])
        self.clashes("do fn x -> let i = x in (i 1, i true)")
        self.clashes("do let i = (fn x -> x) (fn x -> x) in (i 1, i true)")
        self.clashes("do (fn i -> (i 1, i true)) (fn x -> x)")
        self.clashes("do match fn x -> x with i -> (i 1, i true) end")
        self.clashes("do fn x -> let y = ref(Nil) in (y := Cons (1, Nil); y := Cons (true, Nil))")

    def test_recs(self):
        self.types("rec f x = f x and g x = x and h x = (g x, g x)", [("f", "'a -> 'b"), ("g", "'a -> 'a"), ("h", "'a -> 'a * 'a")])
        self.types("rec e n = if n = 0 then true else o (n - 1) and o n = if n = 0 then false else e (n - 1)",
                   [("e", "int -> bool"), ("o", "int -> bool")])
        self.types("rec f f = f", [("f", "'a -> 'a")])
        self.types("rec f x = fn y -> f y x", [("f", "'a -> 'a -> 'b")])
        self.clashes("rec g x = (g 1, g true)")
        self.clashes("rec f x = f")
        self.clashes("rec g x = x and h x = (g 1, g true)")
        self.types("rec g x = x let h = fn x -> (g 1, g true, g x)", [("g", "'a -> 'a"), ("h", "'a -> int * bool * 'a")])

    def test_unknowns_go_on(self):
        self.types("let c = ref(Nil) do c := Cons (1, Nil)", [("c", "ref(list(int))")])
        self.types("let c = ref(Nil) let d = c let f = fn x -> !c do d := Cons ((), Nil)",
                   [("c", "ref(list(unit))"), ("d", "ref(list(unit))"), ("f", "'a -> list(unit)")])
        self.types("let c = ref(Nil) let f = fn x -> c := Cons (x, !c) do f true", [("c", "ref(list(bool))"), ("f", "bool -> unit")])
        self.types("do A.one := Cons (true, Nil) let x = !A.one", [("x", "list(bool)")])
        self.types("let x = !A.one let y = match !A.one with Cons (z, _) -> z + 1 | _ -> 1 end", [("x", "list(int)"), ("y", "int")])
        self.types("do A.wild := (fn x -> x) let y = !A.wild", [("y", "unit -> unit")])
        self.clashes("let c = ref(Nil) do c := Cons (1, Nil) do c := Cons (true, Nil)", 2)
        self.clashes("let c = ref(None) let f = fn x -> c := Some x do f 1 do f true", 3)

    def test_the_first_clash(self):
        self.clashes("type t = A exception E let x = 1 do x 1", 3)
        self.clashes("let x = 1 do x 1 do x 2", 1)
        whole = whole_of("module M = let x = 1 type t = A end module N = exception E do M.x () do 1 1 end")
        self.assertEqual(first_clash(whole), 3)
        self.assertIsNone(first_clash(whole_of(HEAD)))
        self.assertIsNone(first_clash(whole_of("module M = end")))
        self.assertEqual(schemes(whole_of("module M = end")), [])

    def test_what_clashes(self):
        for text in ("do 1 + true", "do if 1 then 2 else 3", "do if true then 1 else ()", "do fn x -> x x", "do 1 2", "do raise 1",
                     "do (1, 2) + 1", "do match 1 with true -> 1 end", "do match 1 with 1 -> 1 | 2 -> true end", "do !1", "do not(1)",
                     "do try 1 with 1 -> 2 end", "do try 1 with DivZero -> true end", "do try 1 with _ -> () end", "do Cons (1, true)",
                     "do Cons (1, Cons (true, Nil))", "do match (1, 2) with (a, b, c) -> a end", "do match Nil with None -> 1 end",
                     "do ref(1) := true", "do same(ref(1), ref(true))", "do at(ref(1), 0)", "do place(array(1, 1), 0, true)",
                     "do size(ref(1))", "do tell(true)", "do array(true, 1)", "do 1 = true", "do () < ()", "do true <= false",
                     "do match Some 1 with Some true -> 1 end", "do raise (Some DivZero)", "do fn x -> (x 1, x + 1)", "do Some 1 2",
                     "let x = fn x -> (x, x x)", "do rec f x = f 1; f true; x in 1"):
            self.clashes(text)

    def test_what_does_not(self):
        for text in ("do 1; 2", "do (fn x -> 1); 2", "do raise DivZero", "do same(ref(Nil), ref(Nil))", "do fn x -> raise x",
                     "do match raise DivZero with 1 -> 2 | _ -> 3 end", "do (raise DivZero) 1 2", "do match Nil with Nil -> 1 end",
                     "do try (raise DivZero) with x -> raise x end", "do if raise NoMore then 1 else 2", "do Nil", "do fn x -> ref(x)"):
            self.assertIs(is_accepted(parse("module M = " + text + " end")), True, text)

    def test_own_types(self):
        self.types("type list = Nil of int | Cons let x = Nil 1 let y = Cons let z = A.one type option('b, 'a) = None of 'a * 'b "
                   "let w = None (1, true) let v = fn x -> match x with None (a, b) -> (a; b) end",
                   [("x", "M.list"), ("y", "M.list"), ("z", "ref(list(unit))"), ("w", "M.option(bool, int)"), ("v", "M.option('a, 'b) -> 'a")])
        self.types("type u('a) = U of A.t('a) | W let x = U (A.C 1) let y = W let f = fn x -> U x",
                   [("x", "M.u(int)"), ("y", "M.u('a)"), ("f", "A.t('a) -> M.u('a)")])
        self.types("type none('a) = N let x = N", [("x", "M.none('a)")])

    def test_random_ones(self):
        """Against a finding that goes from outside in, with substitutions that are put everywhere at once."""
        tally = [0, 0]
        for seed in range(150):
            rand = random.Random(seed)
            maker = Maker(seed, names=["x", "y", "f"], bigs=["Some", "A.C"])
            decls, names = (), []
            for k in range(40):
                maker.longs = ["x", "y", "f", "A.one", "A.k", "A.wild"] + names
                expr = ("fn", "x", ("fn", "y", ("fn", "f", maker.expr(rand.randint(2, 3)))))
                if rand.random() < 0.4:
                    expr = ("let", "x", ("prim", "ref", (("con", "Nil", None),)), ("let", "y", ("fn", "z", ("var", "z")), expr))
                decl = ("let", "v%d" % k, expr)
                if rand.random() < 0.2:
                    decl = ("rec", (("v%d" % k, "x", expr),))
                program = parse(HEAD) + (("module", "B", None, decls + (decl,)),)
                try:
                    whole = resolved(program)
                except (NotBound, NotShown, WrongArgument):
                    continue
                told = naive_schemes(whole)
                clash = first_clash(whole)
                tally[clash is None] += 1
                if clash is not None:
                    self.assertEqual(told, clash)
                else:
                    self.assertEqual(told, schemes(whole))
                    decls, names = decls + (decl,), names + ["v%d" % k]
                    if len(decls) > 5:
                        break
        self.assertGreater(min(tally), 200)


class TestAccepted(unittest.TestCase):
    def test_values_of_all_kinds(self):
        for value in bad_for(lambda value: False) + [parse_expr("1"), [parse("module M = end")], parse("module M = end")[0]]:
            self.assertIs(is_accepted(value), False, value)

    def test_programs(self):
        for text, told in (("module M = end", True), ("module M = do x end", False), ("module M = end module M = end", False),
                           ("module M = do Nil 1 end", False), ("module M = do 1 1 end", False), ("module M show x = end", False),
                           ("module M show () = let x = 1 end module N = do M.x end", False), ("module M = do (1, 2) end", True),
                           (HEAD, True)):
            self.assertIs(is_accepted(parse(text)), told, text)

    def test_errors(self):
        whole = whole_of(HEAD)
        for call in (schemes, first_clash):
            look_at_errors(self, call, [("whole", whole)], [("whole", InvalidWhole, bad_for(lambda value: False) + [parse(HEAD)])])
        keeps(self, schemes, whole)
        self.assertEqual(whole, whole_of(HEAD))


class TestSchemeOf(unittest.TestCase):
    def test_rows(self):
        whole = whole_of(HEAD + "module M = let c = ref(Nil) let i = fn x -> x end")
        for text, told in (("1", "int"), ("fn x -> x", "'a -> 'a"), ("M.i", "'a -> 'a"), ("M.i M.i", "unit -> unit"), ("Nil", "list('a)"),
                           ("M.c", "ref(list(unit))"), ("(M.c, Nil)", "ref(list(unit)) * list('a)"), ("M.c := Cons (1, Nil)", "unit"),
                           ("M.c := Cons (1, Nil); !M.c", "list(int)"), ("fn x -> M.c := Cons (x, Nil)", "unit -> unit"),
                           ("ref(Nil)", "ref(list(unit))"), ("A.C 1", "A.t(int)"), ("rec f x = x in f", "unit -> unit"),
                           ("fn x -> raise x", "exn -> 'a"), ("raise DivZero", "unit"), ("A.wild", "ref(unit -> unit)"),
                           ("match Some 1 with Some x -> Cons (x, Nil) end", "list(int)")):
            self.assertEqual(scheme_text(scheme_of(whole, parse_expr(text))), told, text)
        for text in ("1 1", "fn x -> x x", "M.c := 1", "(M.c := Cons (1, Nil); M.c := Cons (true, Nil))", "1 + true", "raise 1"):
            self.assertIsNone(scheme_of(whole, parse_expr(text)), text)
        self.assertEqual(scheme_of(whole, parse_expr("fn x -> x")), (1, ("fun", ("param", 0), ("param", 0))))

    def test_faults_and_clashes(self):
        good, bad = whole_of(HEAD + "module M show () = let c = 1 end"), whole_of("module M = let x = 1 do x 1 end")
        for whole in (good, bad):
            for text, kind in (("y", NotBound), ("Nil 1", WrongArgument), ("1 (fn x -> z)", NotBound)):
                with self.assertRaises(kind):
                    scheme_of(whole, parse_expr(text))
        with self.assertRaises(NotShown) as caught:
            scheme_of(good, parse_expr("M.c"))
        self.assertEqual(caught.exception.name, "M.c")
        for text in ("1", "1 1", "M.x"):
            with self.assertRaises(Clash) as caught:
                scheme_of(bad, parse_expr(text))
            self.assertEqual(caught.exception.position, 1)
        look_at_errors(self, scheme_of, [("whole", good), ("expr", ("unit",))], [
            ("whole", InvalidWhole, bad_for(lambda value: False)), ("expr", InvalidExpr, bad_for(is_expr))])
        with self.assertRaises(InvalidExpr):
            scheme_of(bad, ("int", True))

    def test_nothing_changes(self):
        whole = whole_of(HEAD)
        before = schemes(whole)
        scheme_of(whole, parse_expr("A.one := Cons (1, Nil)"))
        self.assertEqual(schemes(whole), before)
        self.assertTrue(is_program(parse(HEAD)))


if __name__ == "__main__":
    unittest.main()
