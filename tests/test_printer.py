"""From trees to texts: [17]."""

import unittest

from checking import bad_for, keeps, look_at_errors
from making import Maker

from changedsame.errors import BadText, InvalidExpr, InvalidPattern, InvalidProgram, InvalidType, TooMany
from changedsame.parser import parse, parse_expr, parse_type
from changedsame.printer import expr_text, pattern_text, program_text, type_text
from changedsame.trees import is_expr, is_pattern, is_program, is_type

X, Y, F = ("var", "x"), ("var", "y"), ("var", "f")
NIL = ("con", "Nil", None)


def prim(word, *parts):
    return ("prim", word, parts)


def read_pattern(text):
    return parse_expr("match x with " + text + " -> y end")[2][0][0]


class TestExprs(unittest.TestCase):
    def test_as_they_are_written(self):
        """What is written in full is written so again."""
        for text in (
                "5", "~5", "~2147483648", "true", "()", "x", "M.x", "Nil", "M.C", "f x y", "f (g x)", "f (x, 1)",
                "at(a, 0)", "(Nil) x", "(Nil) x y", "f Nil x", "Cons (1, Nil)", "C x y", "C D", "C (D x)", "!r", "!!r", "!(f x)",
                "!Nil", "!(C x)", "f !r", "C !r", "raise x", "raise (f x)", "raise C", "raise C x", "raise (C x)", "raise !x",
                "f (raise x)", "C (raise x)", "f ()", "f ask()", "not(x; y)", "ref(fn x -> x)", "same(x, y)", "array(1, 0)",
                "place(a, 0, x := y)", "size(a)", "tell(x)", "x + y", "x + y + z", "x + (y + z)", "x - (y - z)", "x + y * z",
                "(x + y) * z", "x * (y * z)", "x mod y / z", "x * (y mod z)", "x = y", "(x = y) = z", "x < y + z",
                "x + (y < z)", "x <= (y <= z)", "x := y", "x := y = z", "(x := y) := z", "x := (y := z)", "x = (y := z)", "x; y",
                "x; y; z", "(x; y); z", "x := y; z", "x := (y; z)", "fn x -> x", "fn x -> x; y", "(fn x -> x); y", "(fn x -> x) y",
                "f (fn x -> x)", "x + (fn x -> x)", "(fn x -> x) + x", "!(fn x -> x)", "raise (fn x -> x)", "x := (fn x -> x)",
                "C (fn x -> x)", "(fn x -> x, fn x -> x)", "let x = y in x", "let x = let y = x in y in x", "let x = (y) in x",
                "(let x = y in x) y", "let x = y; z in x; y", "if x then y else z", "if if x then y else z then x; y else fn x -> x",
                "(if x then y else z) + x", "x; if x then y else z; x", "rec f x = x in f", "rec f x = x and g y = x; y in f; g",
                "match x with _ -> y end", "match x; y with C x -> fn x -> x | (x, _) -> x; y end", "f match x with _ -> y end z",
                "!match x with _ -> y end", "try f x with E -> x | ~1 -> match x with _ -> y end end", "x - ~1", "~1 - x",
                "C x + D y", "f x * g y", "raise x + y", "(raise x) := y", "match x with C (D x) -> y | C D -> x end"):
            text = text.replace("(y) in", "y in").replace("(raise x) :=", "raise x :=")
            self.assertEqual(expr_text(parse_expr(text)), text)

    def test_needless_brackets_go(self):
        for text, other in (("((x))", "x"), ("(f x) y", "f x y"), ("(x * y) + z", "x * y + z"), ("x; (y; z)", "x; y; z"),
                            ("fn x -> (x; y)", "fn x -> x; y"), ("!(!r)", "!!r"), ("f (not (x))", "f not(x)"),
                            ("(C x) y", "C x y"), ("(raise x) y", "raise x y"), ("(!f) x", "!f x"), ("x := (y = z)", "x := y = z"),
                            ("f (match x with (_) -> (y) end)", "f match x with _ -> y end"), ("C (D)", "C D"),
                            ("f (C)", "f C"), ("((x), (y))", "(x, y)"), ("not((x; y))", "not(x; y)"),
                            ("let x = (fn x -> x) in (x; y)", "let x = fn x -> x in x; y"), ("f(x)(y)", "f x y")):
            self.assertEqual(expr_text(parse_expr(text)), other)

    def test_random_ones(self):
        for seed in range(300):
            maker = Maker(seed)
            for tree, write, read, fits in ((maker.expr(4), expr_text, parse_expr, is_expr),
                                            (maker.written(4), type_text, parse_type, is_type),
                                            (maker.pattern(4), pattern_text, read_pattern, is_pattern)):
                if fits(tree):
                    text = write(tree)
                    self.assertEqual(read(text), tree)
                    self.assertNotIn("\n", text)
                    self.each_bracket_is_needed(text, tree, read)

    def each_bracket_is_needed(self, text, tree, read):
        opened = []
        for at, sign in enumerate(text):
            if sign == "(":
                opened.append(at)
            if sign == ")":
                begin = opened.pop()
                try:
                    other = read(text[:begin] + " " + text[begin + 1:at] + " " + text[at + 1:])
                except (BadText, TooMany):
                    continue
                self.assertNotEqual(other, tree, text)

    def test_types(self):
        for text in ("int", "'a", "t", "M.t", "list('a)", "t(int, 'a -> int, M.t(exn))", "ref(int * int)", "array(unit -> bool)",
                     "int -> int -> int", "(int -> int) -> int", "int * (int * int)", "(int * int) * int", "(int -> int) * int",
                     "int * int -> int * int", "int -> (int -> int) * 'a", "ref(ref(int))"):
            self.assertEqual(type_text(parse_type(text)), text)
        self.assertEqual(type_text(parse_type("((int)) -> (int -> (t (int)))")), "int -> int -> t(int)")

    def test_patterns(self):
        for text in ("_", "x", "~3", "7", "true", "false", "()", "C", "M.C x", "C (D x)", "C D", "(x, _)", "(C x, (1, 2), D)",
                     "C (x, y)", "C ()", "C _"):
            self.assertEqual(pattern_text(read_pattern(text)), text)


class TestPrograms(unittest.TestCase):
    TEXT = (
        "module M show f, C =\n"
        "  type t = A\n"
        "  type u('a, 'b) = B of 'a -> 'b | C | D of ref(t) * int\n"
        "  exception E\n"
        "  exception F of list(int)\n"
        "  let x = let y = 1 in y; 2\n"
        "  rec f x = x; x and g y = fn x -> f x\n"
        "  do match x with 1 -> () | _ -> tell(1) end\n"
        "end\n"
        "module N show () =\n"
        "end\n"
        "module O =\n"
        "  do ()\n"
        "end\n"
    )

    def test_lines(self):
        self.assertEqual(program_text(parse(self.TEXT)), self.TEXT)
        self.assertEqual(program_text(parse(self.TEXT.replace("\n", " # so\n "))), self.TEXT)

    def test_random_ones(self):
        for seed in range(150):
            program = Maker(seed).program(3)
            if is_program(program):
                text = program_text(program)
                self.assertEqual(parse(text), program)
                many = sum(len(module[3]) + 2 for module in program)
                self.assertEqual(text.count("\n"), many)
                for line in text.split("\n")[:-1]:
                    self.assertRegex(line, r"^(module .*=|  (type|exception|let|rec|do) .*|end)$")

    def test_errors(self):
        rows = [
            (program_text, "program", ((("module", "M", None, ()),)), InvalidProgram, is_program),
            (expr_text, "expr", X, InvalidExpr, is_expr), (type_text, "written", ("int",), InvalidType, is_type),
            (pattern_text, "pattern", ("any",), InvalidPattern, is_pattern),
        ]
        deep = ("int",)
        for _ in range(40):
            deep = ("ref", deep)
        for call, name, good, kind, fits in rows:
            look_at_errors(self, call, [(name, good)], [(name, kind, bad_for(fits) + [deep, ("cell", 0)])])
            keeps(self, call, good)

    def test_deep_ones(self):
        expr, pattern, written = X, ("any",), ("int",)
        for _ in range(38):
            expr, pattern, written = ("prim", "add", (X, expr)), ("con", "C", pattern), ("fun", written, ("int",))
        self.assertEqual(parse_expr(expr_text(expr)), expr)
        self.assertEqual(read_pattern(pattern_text(pattern)), pattern)
        self.assertEqual(parse_type(type_text(written)), written)


if __name__ == "__main__":
    unittest.main()
