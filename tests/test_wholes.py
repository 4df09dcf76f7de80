"""Modules, whole names, labels and faults: [24] to [28]."""

import unittest

from checking import bad_for, keeps, look_at_errors

from changedsame.errors import (
    InvalidConstructor, InvalidExpr, InvalidProgram, InvalidWhole, NotBound, NotShown, Twice, WrongArgument)
from changedsame.parser import parse, parse_expr
from changedsame.trees import is_expr, is_program
from changedsame.wholes import Whole, resolved, resolved_expr, siblings

BASE = [
    ("Nil", "list", ("a",), None),
    ("Cons", "list", ("a",), ("tuple", (("param", "a"), ("data", "list", (("param", "a"),))))),
    ("None", "option", ("a",), None), ("Some", "option", ("a",), ("param", "a")), ("DivZero", "exn", (), None),
    ("Bounds", "exn", (), None), ("NoMore", "exn", (), None), ("NoMatch", "exn", (), None),
]


def whole_of(text):
    return resolved(parse(text))


class TestWholes(unittest.TestCase):
    def test_whole_names(self):
        whole = whole_of(
            "module A = type t('a) = C of 'a | D of t('a) * list(int) exception E of t(int) let x = 1 "
            "rec f y = g x and g y = f y do (x, C 1, D (C 1, Nil), f) end "
            "module B = let x = A.x let y = fn a -> 1 end "
            "module C = let z = fn x -> (x, A.x, B.x, A.C x) do match A.E (A.C 1) with A.E (A.C x) -> x | Bounds -> 2 end end")
        t_of_a = ("data", "A.t", (("param", "a"),))
        var = lambda name: ("var", name)
        self.assertEqual(whole.decls(), [
            ("type", "A.t", ("a",), (("A.C", ("param", "a")), ("A.D", ("tuple", (t_of_a, ("data", "list", (("int",),))))))),
            ("exception", "A.E", ("data", "A.t", (("int",),))),
            ("let", "A.x", ("int", 1)),
            ("rec", ((0, "A.f", "y", ("call", var("A.g"), var("A.x"))), (1, "A.g", "y", ("call", var("A.f"), var("y"))))),
            ("do", ("tuple", (var("A.x"), ("con", "A.C", ("int", 1)),
                              ("con", "A.D", ("tuple", (("con", "A.C", ("int", 1)), ("con", "Nil", None)))), var("A.f")))),
            ("let", "B.x", var("A.x")),
            ("let", "B.y", ("fn", 2, "a", ("int", 1))),
            ("let", "C.z", ("fn", 3, "x", ("tuple", (var("x"), var("A.x"), var("B.x"), ("con", "A.C", var("x")))))),
            ("do", ("match", ("con", "A.E", ("con", "A.C", ("int", 1))),
                    ((("con", "A.E", ("con", "A.C", ("bind", "x"))), var("x")), (("con", "Bounds", None), ("int", 2))))),
        ])
        self.assertEqual(whole.value_names(), ["A.x", "A.f", "A.g", "B.x", "B.y", "C.z"])
        self.assertEqual(whole.many_labels, 4)
        self.assertEqual(whole.cons(), BASE + [
            ("A.C", "A.t", ("a",), ("param", "a")),
            ("A.D", "A.t", ("a",), ("tuple", (t_of_a, ("data", "list", (("int",),))))),
            ("A.E", "exn", (), ("data", "A.t", (("int",),)))])

    def test_labels(self):
        whole = whole_of(
            "module M = let x = (fn a -> fn b -> a, fn c -> c) rec f a = fn b -> rec g c = c and h d = fn e -> e in fn i -> i "
            "and j k = k do match fn l -> l with _ -> fn m -> m | _ -> fn n -> n end "
            "let y = let z = fn o -> o in (try fn p -> p with _ -> fn q -> q end) (fn r -> r) end")
        self.assertEqual(whole.many_labels, 17)
        order = []

        def walk(tree):
            if isinstance(tree, tuple):
                if tree and tree[0] == "fn":
                    order.append((tree[1], tree[2]))
                if len(tree) == 4 and isinstance(tree[0], int):
                    order.append((tree[0], tree[1]))
                for part in tree:
                    walk(part)

        for decl in whole.decls():
            walk(decl)
        self.assertEqual(order, list(zip(range(17), ["a", "b", "c", "M.f", "b", "g", "h", "e", "i", "M.j", "l", "m", "n", "o",
                                                    "p", "q", "r"])))
        self.assertEqual(whole_of("module M = end").many_labels, 0)

    def test_locals_hide_values(self):
        whole = whole_of("module M = let x = 1 do fn x -> x do let x = x in x do rec f x = x f in x f "
                         "do match x with x -> x | _ -> x end rec g x = x g do rec x y = x y in x end")
        text = str(whole.decls())
        self.assertEqual(whole.decls()[2], ("do", ("let", "x", ("var", "M.x"), ("var", "x"))))
        self.assertEqual(whole.decls()[3][1][2], ("call", ("var", "M.x"), ("var", "f")))
        self.assertEqual(whole.decls()[4][1][2][1][1], ("var", "M.x"))
        self.assertEqual(whole.decls()[4][1][2][0][1], ("var", "x"))
        self.assertEqual(whole.decls()[5][1][0][3], ("call", ("var", "x"), ("var", "M.g")))
        self.assertEqual(text.count("'M.x'"), 5)

    def test_own_things_hide_the_base(self):
        whole = whole_of(
            "module M = do (Nil, Some 1) type u = U of list(int) type list = Nil of int | Other of list type v = V of list "
            "do (Nil 1, Cons (1, Cons (2, Other (Nil 1)))) exception DivZero of int do raise (DivZero 1) end "
            "module N = do (Nil, DivZero, M.Nil 1, M.DivZero 2) type w = W of list(int) * M.list end")
        decls = whole.decls()
        self.assertEqual(decls[0][1][1][0], ("con", "Nil", None))
        self.assertEqual(decls[1][3][0][1], ("data", "list", (("int",),)))
        self.assertEqual(decls[2][3][1], ("M.Other", ("data", "M.list", ())))
        self.assertEqual(decls[3][3][0][1], ("data", "M.list", ()))
        self.assertEqual(decls[4][1][1][0], ("con", "M.Nil", ("int", 1)))
        self.assertEqual(decls[4][1][1][1][1], "Cons")
        self.assertEqual(decls[6][1][1][1], "M.DivZero")
        self.assertEqual([part[1] for part in decls[7][1][1]], ["Nil", "DivZero", "M.Nil", "M.DivZero"])
        self.assertEqual(decls[8][3][0][1], ("tuple", (("data", "list", (("int",),)), ("data", "M.list", ()))))
        self.assertEqual(siblings(whole, "Nil"), ["Nil", "Cons"])
        self.assertEqual(siblings(whole, "M.Nil"), ["M.Nil", "M.Other"])

    def test_equal(self):
        one = whole_of("module M = let x = 1 end")
        self.assertTrue(one == whole_of("module M = let x = 1 end"))
        self.assertTrue(one == whole_of("module M show () = let x = 1 end module N = end"))
        self.assertFalse(one == whole_of("module M = let x = 2 end"))
        self.assertTrue(one != whole_of("module N = let x = 1 end"))
        for other in (None, 1, one.decls(), "x", (), [one]):
            self.assertFalse(one == other)
            self.assertTrue(one != other)

    def test_lists_are_new(self):
        whole = whole_of("module M = let x = 1 end")
        for method in (whole.decls, whole.value_names, whole.cons, lambda: siblings(whole, "Nil")):
            told = method()
            told.append(1)
            self.assertNotEqual(method(), told)
        self.assertIsInstance(whole, Whole)
        for name in ("decls", "value_names", "cons", "many_labels", "__eq__"):
            self.assertIn(name, vars(Whole))

    def test_siblings(self):
        whole = whole_of("module M show () = type t = A | B of int exception E exception F end module N = type t = A end")
        self.assertEqual(siblings(whole, "M.B"), ["M.A", "M.B"])
        self.assertEqual(siblings(whole, "N.A"), ["N.A"])
        self.assertEqual(siblings(whole, "M.E"), ["M.E"])
        self.assertEqual(siblings(whole, "Some"), ["None", "Some"])
        bad = bad_for(lambda value: False) + ["A", "t", "M.t", "M.x", "M.C", "list", "exn", "E"]
        look_at_errors(self, siblings, [("whole", whole), ("con", "Nil")], [
            ("whole", InvalidWhole, bad_for(lambda value: False)), ("con", InvalidConstructor, bad)])


class TestFaults(unittest.TestCase):
    def fault(self, text, kind, name):
        with self.assertRaises(kind, msg=text) as caught:
            whole_of(text)
        self.assertIs(type(caught.exception), kind, text)
        self.assertEqual(caught.exception.name, name, text)

    def test_twice(self):
        for text, name in (
                ("module M = end module N = end module M = end", "M"), ("module M = let x = 1 let x = 2 end", "x"),
                ("module M = let x = 1 rec f y = y and x y = y end", "x"), ("module M = rec f x = x let f = 1 end", "f"),
                ("module M = type t = A type t = B end", "t"), ("module M = type t = A | B | A end", "A"),
                ("module M = type t = A type u = A end", "A"), ("module M = type t = A exception A end", "A"),
                ("module M = exception A exception A of int end", "A"), ("module M = exception A type t = A end", "A")):
            self.fault(text, Twice, name)
        for text in ("module M = let t = 1 type t = A end", "module M = let x = fn x -> let x = x in x end",
                     "module M = let x = 1 end module N = let x = 1 end", "module M = type list = Nil exception Bounds end",
                     "module M = type t = A end module N = type t = A end"):
            whole_of(text)

    def test_not_bound(self):
        for text, name in (
                ("module M = do x end", "x"), ("module M = let x = x end", "x"), ("module M = do x let x = 1 end", "x"),
                ("module M = do M.x end", "M.x"), ("module M = let x = 1 do M.x end", "M.x"), ("module M = do N.x end", "N.x"),
                ("module M = do N.x end module N = let x = 1 end", "N.x"), ("module M = let x = 1 end module N = do x end", "x"),
                ("module M = let x = 1 end module N = do M.y end", "M.y"), ("module M = do C end", "C"),
                ("module M = do C type t = C end", "C"), ("module M = type t = C do M.C end", "M.C"),
                ("module M = type t = C end module N = do C end", "C"), ("module M = type t = C end module N = do M.D end", "M.D"),
                ("module M = do match 1 with C -> 1 end end", "C"), ("module M = do try 1 with N.C _ -> 1 end end", "N.C"),
                ("module M = type t = A of u end", "u"), ("module M = type t = A of u type u = B end", "u"),
                ("module M = type t = A of M.t end", "M.t"), ("module M = type t = A of N.t end", "N.t"),
                ("module M = type t = A end module N = type u = B of t end", "t"), ("module M = exception E of t end", "t"),
                ("module M = type t = A end module N = type u = B of M.u end", "M.u"), ("module M = type t = A of 'a end", "a"),
                ("module M = type t('a) = A of 'b end", "b"), ("module M = exception E of list('a) end", "a"),
                ("module M show x = end", "x"), ("module M show A = end", "A"), ("module M show x, y = let x = 1 end", "y"),
                ("module M show x = let y = 1 end", "x"), ("module M show t = type t = A end", "t"),
                ("module M = rec f x = y end", "y"), ("module M = do (fn x -> x) x end", "x"),
                ("module M = do let x = x in 1 end", "x"), ("module M = do rec f x = 1 in x end", "x"),
                ("module M = do match 1 with x -> 1 | _ -> x end end", "x"), ("module M = do M.Nil end", "M.Nil"),
                ("module M = end module N = do M.Nil end", "M.Nil"), ("module M = end module N = exception E of M.list end", "M.list")):
            self.fault(text, NotBound, name)

    def test_what_is_bound(self):
        for text in ("module M = rec f x = g x and g x = f x do f g end", "module M = type t = A of t | B of t end",
                     "module M show x, A, E = let x = 1 type t = A exception E end module N = do (M.x, M.A, M.E) end",
                     "module M = type t('a, 'b) = A of 'b -> 'a end", "module M show () = type t = A end module N = exception E of M.t end",
                     "module M show x = let x = 1 type x = A end", "module M = let x = 1 let y = x do y end"):
            whole_of(text)

    def test_not_shown(self):
        head = "module M show y, B = let x = 1 let y = 2 type t = A | B exception E end module N = "
        for text, name in (("do M.x", "M.x"), ("do M.A", "M.A"), ("do M.E", "M.E"), ("do match M.B with M.A -> 1 end", "M.A"),
                           ("do fn x -> M.x", "M.x")):
            self.fault(head + text + " end", NotShown, name)
        self.fault("module M show () = let x = 1 end module N = do M.x end", NotShown, "M.x")
        whole_of(head + "do (M.y, M.B) type u = C of M.t end")

    def test_wrong_arguments(self):
        for text, name in (
                ("do Nil 1", "Nil"), ("do Some", "Some"), ("do DivZero ()", "DivZero"), ("do match 1 with Cons -> 1 end", "Cons"),
                ("do match 1 with None x -> 1 end", "None"), ("type t = A do A 1", "A"), ("type t = A of int do A", "A"),
                ("exception E of int do raise E", "E"), ("type t = A of list", "list"), ("type t = A of option(int, int)", "option"),
                ("type t('a) = A of t", "t"), ("type t = A of t(int)", "t"), ("type t = A type u = B of t(int)", "t"),
                ("exception E of list", "list"), ("do (Cons) (1, Nil)", "Cons"), ("do Some Nil 1; Some", "Some")):
            self.fault("module M = " + text + " end", WrongArgument, name)
        self.fault("module M = type t = A of int end module N = do M.A end", WrongArgument, "M.A")
        self.fault("module M = type t('a) = A end module N = exception E of M.t end", WrongArgument, "M.t")

    def test_the_first_fault(self):
        for text, kind, name in (
                ("module M = do x end module M = end", NotBound, "x"), ("module M = end module M = do x end", Twice, "M"),
                ("module M show z = do x end", NotBound, "x"), ("module M show z, y = end", NotBound, "z"),
                ("module M show z = end module N = do x end", NotBound, "z"), ("module M = do x do y end", NotBound, "x"),
                ("module M = type t = A of u type t = B end", NotBound, "u"), ("module M = type t = A of u | A end", NotBound, "u"),
                ("module M = type t = A | A of u end", Twice, "A"), ("module M = type t = A type t = B of u end", Twice, "t"),
                ("module M = exception E exception E of u end", Twice, "E"), ("module M = let x = 1 let x = y end", Twice, "x"),
                ("module M = let f = 1 rec g x = y and f x = 2 end", Twice, "f"), ("module M = rec f x = y and g x = z end", NotBound, "y"),
                ("module M = do Nil x end", WrongArgument, "Nil"), ("module M = do Some (Nil x) end", WrongArgument, "Nil"),
                ("module M = do C x end", NotBound, "C"), ("module M = do x C end", NotBound, "x"),
                ("module M = do match x with C -> y end end", NotBound, "x"), ("module M = do match 1 with C y -> y z end end", NotBound, "C"),
                ("module M = do match 1 with (Nil x, C) -> y end end", WrongArgument, "Nil"),
                ("module M = do match 1 with x -> y | C -> 1 end end", NotBound, "y"),
                ("module M = type t = A of list(u) end", NotBound, "u"), ("module M = type t = A of list(u, u) end", WrongArgument, "list"),
                ("module M = type t = A of u(list) end", NotBound, "u"), ("module M = type t = A of list * u end", WrongArgument, "list"),
                ("module M = type t = A of 'a -> u end", NotBound, "a"), ("module M = do let x = y in z end", NotBound, "y"),
                ("module M = do rec f x = y in z end", NotBound, "y"), ("module M = do if x then y else z end", NotBound, "x"),
                ("module M show () = type t = A of int end module N = do M.A end", NotShown, "M.A"),
                ("module M show () = type t = A of int end module N = do M.A x end", NotShown, "M.A"),
                ("module M = do try (x; y) with C -> z end end", NotBound, "x"), ("module M = do !(fn x -> x) (raise y) end", NotBound, "y")):
            self.fault(text, kind, name)

    def test_errors(self):
        good = parse("module M = end")
        look_at_errors(self, resolved, [("program", good)], [("program", InvalidProgram, bad_for(is_program))])
        keeps(self, resolved, good)


class TestExprs(unittest.TestCase):
    HEAD = ("module A show x, C, E = let x = 1 let y = fn z -> z type t = C of int | D exception E end "
            "module B = let x = fn z -> A.x type t = C end")

    def test_behind_all_modules(self):
        whole = whole_of(self.HEAD)
        self.assertEqual(whole.many_labels, 2)
        told = resolved_expr(whole, parse_expr("fn x -> rec f y = fn z -> A.x in ((B.x, x, f), (A.C 1, B.C, Nil, A.E))"))
        self.assertEqual(told[:3], ("fn", 2, "x"))
        self.assertEqual(told[3][:2], ("rec", ((3, "f", "y", ("fn", 4, "z", ("var", "A.x"))),)))
        self.assertEqual(told[3][2], ("tuple", (
            ("tuple", (("var", "B.x"), ("var", "x"), ("var", "f"))),
            ("tuple", (("con", "A.C", ("int", 1)), ("con", "B.C", None), ("con", "Nil", None), ("con", "A.E", None))))))
        self.assertEqual(whole.many_labels, 2)
        self.assertEqual(resolved_expr(whole, parse_expr("fn x -> x")), ("fn", 2, "x", ("var", "x")))
        self.assertEqual(resolved_expr(whole, parse_expr("match Some B.x with Some (B.C) -> 1 | None -> 2 end"))[2][0][0],
                         ("con", "Some", ("con", "B.C", None)))

    def test_faults(self):
        whole = whole_of(self.HEAD)
        for text, kind, name in (("x", NotBound, "x"), ("A.y", NotShown, "A.y"), ("A.z", NotBound, "A.z"), ("C", NotBound, "C"),
                                 ("A.C", WrongArgument, "A.C"), ("A.D", NotShown, "A.D"), ("B.C 1", WrongArgument, "B.C"),
                                 ("D.x", NotBound, "D.x"), ("Some", WrongArgument, "Some"), ("fn y -> x", NotBound, "x"),
                                 ("B.x A.y C", NotShown, "A.y"), ("A.C C", NotBound, "C")):
            with self.assertRaises(kind) as caught:
                resolved_expr(whole, parse_expr(text))
            self.assertEqual(caught.exception.name, name)

    def test_errors(self):
        whole = whole_of(self.HEAD)
        look_at_errors(self, resolved_expr, [("whole", whole), ("expr", ("unit",))], [
            ("whole", InvalidWhole, bad_for(lambda value: False) + [parse(self.HEAD)]), ("expr", InvalidExpr, bad_for(is_expr))])


if __name__ == "__main__":
    unittest.main()
