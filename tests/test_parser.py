"""From texts to trees: [14], [15], [16]."""

import random
import unittest

from checking import bad_for, look_at_errors
from earley import bad_place
from making import Maker

from changedsame.errors import BadText, InvalidText, TooMany
from changedsame.parser import parse, parse_expr, parse_type
from changedsame.printer import expr_text, program_text, type_text
from changedsame.tokens import tokens_of
from changedsame.trees import is_expr, is_program, is_type

X, Y, Z, F = ("var", "x"), ("var", "y"), ("var", "z"), ("var", "f")
ONE = ("int", 1)

KEYWORDS = set("and array ask at bool do else end exception exn false fn if in int let match mod module not of place "
               "raise rec ref same show size tell then true try type unit with".split())
FURTHER = ("( ) , ; | ' ! + * = < := -> _ fn let in and end match with of rec do type ask not at raise M.x M.C C x 5 ~3 "
           "true int ref module show mod then").split()


def prim(word, *parts):
    return ("prim", word, parts)


class TestExprs(unittest.TestCase):
    def reads(self, text, expr):
        self.assertEqual(parse_expr(text), expr, text)

    def test_lone_ones(self):
        self.reads("5", ("int", 5))
        self.reads("~5", ("int", -5))
        self.reads("~2147483648", ("int", -2147483648))
        self.reads("true", ("bool", True))
        self.reads("false", ("bool", False))
        self.reads("()", ("unit",))
        self.reads("( )", ("unit",))
        self.reads("M.x", ("var", "M.x"))
        self.reads("C", ("con", "C", None))
        self.reads("M.C", ("con", "M.C", None))
        self.reads("(((x)))", X)
        self.assertIs(parse_expr("true")[1], True)

    def test_calls_and_constructors(self):
        self.reads("f x y", ("call", ("call", F, X), Y))
        self.reads("f (x y)", ("call", F, ("call", X, Y)))
        self.reads("C x", ("con", "C", X))
        self.reads("C x y", ("call", ("con", "C", X), Y))
        self.reads("f C x", ("call", ("call", F, ("con", "C", None)), X))
        self.reads("f (C x)", ("call", F, ("con", "C", X)))
        self.reads("(C) x", ("call", ("con", "C", None), X))
        self.reads("C D x", ("call", ("con", "C", ("con", "D", None)), X))
        self.reads("C !x", ("con", "C", prim("get", X)))
        self.reads("!C x", ("call", prim("get", ("con", "C", None)), X))
        self.reads("raise C x", ("call", ("raise", ("con", "C", None)), X))
        self.reads("raise (C x)", ("raise", ("con", "C", X)))
        self.reads("raise x y z", ("call", ("call", ("raise", X), Y), Z))
        self.reads("f !x !!y", ("call", ("call", F, prim("get", X)), prim("get", prim("get", Y))))
        self.reads("f ~1 2", ("call", ("call", F, ("int", -1)), ("int", 2)))
        self.reads("C ~1", ("con", "C", ("int", -1)))
        self.reads("f () (x, y)", ("call", ("call", F, ("unit",)), ("tuple", (X, Y))))
        self.reads("f match x with _ -> y end z", ("call", ("call", F, ("match", X, ((("any",), Y),))), Z))
        self.reads("f not(x) ask()", ("call", ("call", F, prim("not", X)), prim("ask")))

    def test_signs(self):
        for sign, word in (("+", "add"), ("-", "sub"), ("*", "mul"), ("/", "div"), ("mod", "mod")):
            text = "x %s y %s z" % (sign, sign)
            self.reads(text, prim(word, prim(word, X, Y), Z))
            self.reads("x %s (y %s z)" % (sign, sign), prim(word, X, prim(word, Y, Z)))
        for sign, word in ((":=", "put"), ("=", "eq"), ("<", "lt"), ("<=", "le")):
            self.reads("x %s y" % sign, prim(word, X, Y))
        self.reads("x - y + z", prim("add", prim("sub", X, Y), Z))
        self.reads("x + y * z", prim("add", X, prim("mul", Y, Z)))
        self.reads("x * y + z", prim("add", prim("mul", X, Y), Z))
        self.reads("x * y mod z / x", prim("div", prim("mod", prim("mul", X, Y), Z), X))
        self.reads("x + y = y + z", prim("eq", prim("add", X, Y), prim("add", Y, Z)))
        self.reads("x := y = z", prim("put", X, prim("eq", Y, Z)))
        self.reads("x = y := z < x", prim("put", prim("eq", X, Y), prim("lt", Z, X)))
        self.reads("f x * C y", prim("mul", ("call", F, X), ("con", "C", Y)))
        self.reads("x - ~1", prim("sub", X, ("int", -1)))
        self.reads("raise x + y", prim("add", ("raise", X), Y))
        self.reads("x := y; z", ("seq", prim("put", X, Y), Z))

    def test_open_forms(self):
        self.reads("fn x -> x; y", ("fn", "x", ("seq", X, Y)))
        self.reads("x; fn x -> x; y", ("seq", X, ("fn", "x", ("seq", X, Y))))
        self.reads("x; y; z", ("seq", X, ("seq", Y, Z)))
        self.reads("(x; y); z", ("seq", ("seq", X, Y), Z))
        self.reads("let x = y; z in x; y", ("let", "x", ("seq", Y, Z), ("seq", X, Y)))
        self.reads("if x then y else z; x", ("if", X, Y, ("seq", Z, X)))
        self.reads("if x; y then y else if x then y else z", ("if", ("seq", X, Y), Y, ("if", X, Y, Z)))
        self.reads("rec f x = x and g x = f x in g 1", (
            "rec", (("f", "x", X), ("g", "x", ("call", F, X))), ("call", ("var", "g"), ONE)))
        self.reads("rec f x = rec g y = y and h y = y in g and k x = x in f", (
            "rec", (("f", "x", ("rec", (("g", "y", Y), ("h", "y", Y)), ("var", "g"))), ("k", "x", X)), F))
        self.reads("rec f f = f in f", ("rec", (("f", "f", F),), F))
        self.reads("let x = fn y -> y in x", ("let", "x", ("fn", "y", Y), X))

    def test_rules(self):
        self.reads("match x with _ -> y end", ("match", X, ((("any",), Y),)))
        self.reads("try x; y with E -> z | F.N y -> y; x end", (
            "try", ("seq", X, Y), ((("con", "E", None), Z), (("con", "F.N", ("bind", "y")), ("seq", Y, X)))))
        patterns = [
            ("_", ("any",)), ("x", ("bind", "x")), ("~3", ("int", -3)), ("true", ("bool", True)), ("()", ("unit",)),
            ("false", ("bool", False)), ("C", ("con", "C", None)), ("M.C x", ("con", "M.C", ("bind", "x"))),
            ("(x)", ("bind", "x")), ("(x, y)", ("tuple", (("bind", "x"), ("bind", "y")))),
            ("C D", ("con", "C", ("con", "D", None))), ("C (D x)", ("con", "C", ("con", "D", ("bind", "x")))),
            ("(C x, (_, 1), 2, ())", ("tuple", (("con", "C", ("bind", "x")), ("tuple", (("any",), ONE)), ("int", 2),
                                                ("unit",)))),
        ]
        for text, pattern in patterns:
            self.reads("match x with " + text + " -> y end", ("match", X, ((pattern, Y),)))

    def test_prims(self):
        for word, many in (("not", 1), ("ref", 1), ("size", 1), ("tell", 1), ("same", 2), ("array", 2), ("at", 2),
                           ("place", 3), ("ask", 0)):
            text = word + "(" + ", ".join(["fn x -> x; y"] * many) + ")"
            self.reads(text, prim(word, *[("fn", "x", ("seq", X, Y))] * many))
            self.assertEqual(self.bad(word + "(" + ", ".join(["x"] * (many + 1)) + ")"),
                             len(word) + (1 if many == 0 else 3 * many - 1))
            if many:
                short = word + "(" + ", ".join(["x"] * (many - 1)) + ")"
                self.assertEqual(self.bad(short), len(short) - 1)

    def bad(self, text, read=parse_expr):
        with self.assertRaises(BadText, msg=text) as caught:
            read(text)
        return caught.exception.position

    def test_places_of_what_cannot_stand(self):
        rows = [
            ("", 0), ("   ", 3), ("x +", 3), ("x + # y", 7), ("(x", 2), ("x)", 1), ("x y)", 3), ("fn X -> x", 3),
            ("fn M.x -> x", 3), ("fn x x", 5), ("fn in -> x", 3), ("let x = y", 9), ("let x = y z", 11), ("let x y", 6),
            ("if x then y", 11), ("if x else y", 5), ("x = y = z", 6), ("x < y <= z", 6), ("x := y := z", 7),
            ("x := y = z := x", 11), ("x = y := z = x = y", 15), ("1 + fn x -> x", 4), ("f fn x -> x", 2), ("f raise x", 2),
            ("x; ", 3), ("x;; y", 2), ("! ", 2), ("raise", 5), ("raise raise x", 6), ("match x with end", 13),
            ("match x with _ -> y", 19), ("match x with _ y end", 15), ("match x _ -> y end", 8),
            ("match x with M.x -> y end", 13), ("match x with C M.x -> y end", 15), ("match x with C C C -> x end", 17),
            ("match x with C fn -> x end", 15), ("match x with (x, x) -> y end", 17),
            ("match x with (x, C (y, x)) -> y end", 23), ("match x with C x -> y | (y, y) -> x end", 28), ("rec f = x in f", 6),
            ("rec f x = x and f y = y in f", 16), ("rec f x = x and g y = y and f z = z in f", 28), ("rec f x = x", 11),
            ("ask", 3), ("ask(x)", 4), ("not x", 4), ("not()", 4), ("x == y", 3), ("x -> y", 2), ("int", 0), ("x, y", 1),
            ("()()", 4), ("x end", 2), ("type", 0), ("* x", 0), ("(x,)", 3), ("(,x)", 1), ("place(x, y)", 10),
            ("x in y", 2), ("- 1", 0), ("match x with ~1 -> y | -1 -> z end", 23), ("fn (x) -> x", 3), ("x | y", 2),
        ]
        for text, position in rows:
            if text == "()()":
                self.assertEqual(parse_expr(text), ("call", ("unit",), ("unit",)))
            else:
                self.assertEqual(self.bad(text), position, text)

    def test_numbers_of_things(self):
        for many in (2, 4):
            self.assertEqual(len(parse_expr("(" + ", ".join(["x"] * many) + ")")[1]), many)
        self.assertEqual(self.bad("(x, x, x, x, x)"), 11)
        self.assertEqual(self.bad("match x with (_, _, _, _, _) -> x end"), 24)
        members = " and ".join(["f%d x = x" % k for k in range(4)])
        self.assertEqual(len(parse_expr("rec " + members + " in f1")[1]), 4)
        self.assertEqual(self.bad("rec " + members + " and g x = x in f1"), len("rec " + members + " "))
        rules = " | ".join(["_ -> x"] * 8)
        self.assertEqual(len(parse_expr("match x with " + rules + " end")[2]), 8)
        self.assertEqual(self.bad("match x with " + rules + " | _ -> x end"), len("match x with " + rules + " "))

    def test_bad_tokens_come_first(self):
        self.assertEqual(self.bad("x + + 00"), 6)
        self.assertEqual(self.bad("fn fn :"), 6)

    def test_too_many(self):
        self.assertEqual(parse_expr(" + ".join(["x"] * 40))[1], "add")
        for text, what, limit in (
                (" + ".join(["x"] * 41), "depth", 40), ("; ".join(["x"] * 41), "depth", 40),
                (" + ".join(["x"] * 300), "depth", 40), (" + ".join(["x"] * 301), "parts", 600),
                ("+".join(["1"] * 6000), "parts", 600), ("!" * 40 + "x", "depth", 40), ("!" * 600 + "x", "parts", 600),
                (";".join(["1"] * 6000), "parts", 600), ("f" + " x" * 40, "depth", 40)):
            with self.assertRaises(TooMany) as caught:
                parse_expr(text)
            self.assertEqual((caught.exception.what, caught.exception.limit), (what, limit))
        with self.assertRaises(TooMany) as caught:
            parse_type(" -> ".join(["int"] * 41))
        self.assertEqual(caught.exception.what, "depth")
        with self.assertRaises(TooMany) as caught:
            parse_type("->".join(["int"] * 3000))
        self.assertEqual(caught.exception.what, "parts")
        self.assertEqual(self.bad("+".join(["1"] * 700) + " )"), 1400)
        self.assertEqual(len(parse_type(" -> ".join(["int"] * 40))), 3)

    def test_errors(self):
        bad = bad_for(lambda value: isinstance(value, str))
        for call, text in ((parse_expr, "x"), (parse_type, "int"), (parse, "module M = end")):
            look_at_errors(self, call, [("text", text)], [("text", InvalidText, bad)])
            self.assertEqual(call(text), call(text))


class TestTypes(unittest.TestCase):
    def test_forms(self):
        a, int_ = ("param", "a"), ("int",)
        rows = [
            ("int", int_), ("bool", ("bool",)), ("unit", ("unit",)), ("exn", ("exn",)), ("'a", a), ("' a", a),
            ("t", ("data", "t", ())), ("M.t", ("data", "M.t", ())), ("list('a)", ("data", "list", (a,))),
            ("t (int, 'a, M.t)", ("data", "t", (int_, a, ("data", "M.t", ())))), ("ref(int)", ("ref", int_)),
            ("array(int -> 'a)", ("array", ("fun", int_, a))), ("int -> 'a -> int", ("fun", int_, ("fun", a, int_))),
            ("(int -> 'a) -> int", ("fun", ("fun", int_, a), int_)), ("int * 'a * int", ("tuple", (int_, a, int_))),
            ("int * ('a * int)", ("tuple", (int_, ("tuple", (a, int_))))), ("(int)", int_), ("((int))", int_),
            ("int * int -> 'a * 'a", ("fun", ("tuple", (int_, int_)), ("tuple", (a, a)))),
            ("(int -> int) * int", ("tuple", (("fun", int_, int_), int_))),
            ("t(int * 'a)", ("data", "t", (("tuple", (int_, a)),))),
        ]
        for text, written in rows:
            self.assertEqual(parse_type(text), written, text)

    def test_places(self):
        rows = [("", 0), ("int *", 5), ("* int", 0), ("T", 0), ("M.T", 0), ("'A", 1), ("'M.a", 1), ("'", 1), ("int int", 4),
                ("int * int * int * int * int", 22), ("t()", 2), ("t(int, int, int, int)", 15), ("ref int", 4), ("ref", 3),
                ("array()", 6), ("ref(int, int)", 7), ("()", 1), ("(int", 4), ("int ->", 6), ("int(int)", 3), ("'a(int)", 2),
                ("(int, int)", 4), ("list int", 5), ("fn", 0), ("_", 0), ("5", 0), ("int)", 3)]
        for text, position in rows:
            with self.assertRaises(BadText, msg=text) as caught:
                parse_type(text)
            self.assertEqual(caught.exception.position, position, text)


class TestPrograms(unittest.TestCase):
    def test_declarations(self):
        rows = [
            ("type t = A", ("type", "t", (), (("A", None),))),
            ("type t('a, 'b) = A | B of 'a -> 'b | C of int * int",
             ("type", "t", ("a", "b"), (("A", None), ("B", ("fun", ("param", "a"), ("param", "b"))),
                                        ("C", ("tuple", (("int",), ("int",))))))),
            ("type t = A | A", ("type", "t", (), (("A", None), ("A", None)))),
            ("exception E", ("exception", "E", None)), ("exception E of int", ("exception", "E", ("int",))),
            ("let x = x; y", ("let", "x", ("seq", X, Y))), ("do x", ("do", X)),
            ("rec f x = x and g f = f", ("rec", (("f", "x", X), ("g", "f", F)))),
        ]
        for text, decl in rows:
            self.assertEqual(parse("module M = " + text + " end"), (("module", "M", None, (decl,)),))
        whole = "module M = " + " ".join([text for text, _ in rows]) + " end"
        self.assertEqual(parse(whole)[0][3], tuple([decl for _, decl in rows]))

    def test_lets_beside_lets(self):
        self.assertEqual(parse("module M = let x = let y = x in y let z = x do z end")[0][3], (
            ("let", "x", ("let", "y", X, Y)), ("let", "z", X), ("do", Z)))

    def test_modules(self):
        self.assertEqual(parse("module M = end"), (("module", "M", None, ()),))
        self.assertEqual(parse("module M show () = end"), (("module", "M", (), ()),))
        self.assertEqual(parse("module M show x, Y, z = end"), (("module", "M", ("x", "Y", "z"), ()),))
        self.assertEqual(len(parse("module M = end " * 6)), 6)
        shown = ", ".join(["n%d" % k for k in range(40)])
        self.assertEqual(len(parse("module M show " + shown + " = end")[0][2]), 40)
        self.assertEqual(len(parse("module M = " + "do x " * 20 + "end")[0][3]), 20)

    def test_places(self):
        shown = ", ".join(["n%d" % k for k in range(40)])
        six = "type t = A | B | C | D | E | F"
        four = "rec " + " and ".join(["f%d x = x" % k for k in range(4)])
        rows = [
            ("", 0), ("x", 0), ("module", 6), ("module m = end", 7), ("module M.N = end", 7), ("module M end", 9),
            ("module M =", 10), ("module M = x end", 11), ("module M = end x", 15), ("module M = end end", 15),
            ("module M = end " * 7, 90), ("module M show = end", 14), ("module M show (x) = end", 15),
            ("module M show x, x = end", 17), ("module M show X, y, X = end", 20), ("module M show M.x = end", 14),
            ("module M show x y = end", 16), ("module M show " + shown + ", z = end", 14 + len(shown)),
            ("module M = " + "do x " * 21 + "end", 111), ("module M = " + "do x " * 20 + "let y = x end", 111),
            ("module M = let x = y", 20), ("module M = let x = y in x end", 21),
            ("module M = let M.x = y end", 15), ("module M = let X = y end", 15), ("module M = do end", 14),
            ("module M = " + six + " | G end", 11 + len(six) + 1), ("module M = type t = end", 20),
            ("module M = type t = a end", 20), ("module M = type t = M.A end", 20), ("module M = type T = A end", 16),
            ("module M = type t() = A end", 18), ("module M = type t(a) = A end", 18),
            ("module M = type t('a, 'a) = A end", 23), ("module M = type t('a, 'b, 'c, 'd) = A end", 28),
            ("module M = type t = A of end", 25), ("module M = exception e end", 21), ("module M = exception M.E end", 21),
            ("module M = exception E | F end", 23), ("module M = rec f x = x and f y = y end", 27),
            ("module M = " + four + " and g x = x end", 11 + len(four) + 1), ("module M = rec f x = x in f end", 23),
            ("module M = fn x -> x end", 11), ("module M = module N = end end", 11), ("module M show = end", 14),
        ]
        for text, position in rows:
            with self.assertRaises(BadText, msg=text) as caught:
                parse(text)
            self.assertEqual(caught.exception.position, position, text)

    def test_too_many(self):
        rows = "module M = " + "let x = " + "+".join(["1"] * 39) + " "
        decl = "let x = " + "+".join(["1"] * 20) + " "
        self.assertEqual(len(parse(rows + "end")), 1)
        for text, what in (("module M = do " + "!" * 40 + "x end", "depth"), ("module M = " + decl * 16 + " end", "parts")):
            with self.assertRaises(TooMany) as caught:
                parse(text)
            self.assertEqual(caught.exception.what, what)
        self.assertEqual(len(parse("module M = " + decl * 14 + " end")[0][3]), 14)


class TestBothWays(unittest.TestCase):
    """Against the grammar itself, which tests/earley.py reads in another way."""

    def texts(self, seed):
        maker = Maker(seed)
        for start, tree, write, read, fits in (
                ("PROGRAM", maker.program(2), program_text, parse, is_program),
                ("E", maker.expr(4), expr_text, parse_expr, is_expr), ("TYPE", maker.written(4), type_text, parse_type, is_type)):
            if fits(tree):
                yield start, tree, write(tree), read

    def spoiled(self, rand, text):
        """The text with some tokens left out, put in or exchanged, and all names unlike."""
        words = [word for _, word, _ in tokens_of(text)][:100]
        for _ in range(rand.randint(0, 2)):
            at = rand.randrange(len(words) + 1)
            if rand.random() < 0.4:
                del words[at:at + 1]
            else:
                words.insert(at, rand.choice(FURTHER))
        if rand.random() < 0.3:
            words = words[:rand.randrange(len(words) + 1)]
        for at, word in enumerate(words):
            if word[0].isalpha() and "." not in word and word not in KEYWORDS:
                words[at] = ("v%d" if word[0].islower() else "B%d") % at
        return " ".join(words) + rand.choice(["", "  ", " # so"])

    def test_texts(self):
        for seed in range(700):
            rand = random.Random(seed)
            for start, tree, text, read in self.texts(seed):
                self.assertEqual(read(text), tree, text)
                other = self.spoiled(rand, text)
                try:
                    read(other)
                    found = None
                except BadText as error:
                    found = error.position
                except TooMany:
                    found = None
                self.assertEqual(found, bad_place(start, tokens_of(other), len(other)), other)


if __name__ == "__main__":
    unittest.main()
