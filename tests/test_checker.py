"""The small checker of papers: [271] to [275]."""

import random
import unittest

from checking import ODD, bad_for, error_of, keeps, look_at_errors
from running import parting_run
from typed import Typed

from changedsame.checker import checked, is_paper
from changedsame.errors import BadStep, InvalidPaper, InvalidProgram, NotAccepted
from changedsame.infer import is_accepted
from changedsame.parser import parse, parse_expr
from changedsame.papers import rules
from changedsame.places import expr_at, places, put_at
from changedsame.printer import expr_text, program_text
from changedsame.trees import is_program


class Steps(unittest.TestCase):
    def look(self, text, rule, place, more, is_right=True, back=True):
        """Whether a step with the expression of a text is right, and the one back."""
        program = parse(text)
        self.assertTrue(is_accepted(program), text)
        expr = parse_expr(more) if isinstance(more, str) else more
        step = (rule, place, expr)
        if not is_right:
            error = error_of(checked, program, [step])
            self.assertEqual((type(error), getattr(error, "position", None)), (BadStep, 0), (text, step))
            return
        told = keeps(self, checked, program, [step])
        self.assertEqual(told, put_at(program, place, expr))
        self.assertIs(is_paper(program, told, [step]), True)
        if back:
            self.assertEqual(checked(told, [(rule, place, expr_at(program, place))]), program)
        self.assertIsNone(parting_run(program, told, random.Random(5)))


class TestExpressions(Steps):
    def test_rules_of_expressions(self):
        for rule, one, other in [
                ("alpha", "fn x -> x + k", "fn z -> z + k"), ("value", "let x = 4 in x + x", "4 + 4"), ("call", "(fn x -> x + 1) (ask())", "let x = ask() in x + 1"), ("named", "1 + ask()", "let z = ask() in 1 + z"),
                ("nested", "(ask(); k); 3", "ask(); (k; 3)"), ("unused", "ask(); 3", "let x = ask() in 3"), ("rows", "!r + !r", "2 * !r"), ("rows", "(r := 1; r := 2)", "r := 2"),
                ("choices", "match k with 1 -> 2 | _ -> 3 end", "match k with 2 -> 3 | 1 -> 2 | _ -> 3 end"), ("given", "f", "fn q -> q + k"), ("given", "k", "5"), ("given", "p", "(k, f)")]:
            text = f"module M = let k = 5 let r = ref(1) let f = fn q -> q + k let p = (k, f) do {{}} end"
            self.look(text.format(f"({one})"), rule, (0, 4), other)
            for word in rules():
                if word not in (rule, "rows"):
                    self.look(text.format(f"({one})"), word, (0, 4), other, False)
            self.look(text.format(f"({one})"), rule, (0, 5), other, False)
            self.look(text.format(f"({one})"), rule, (), other, False)
            self.look(text.format(f"({one})"), rule, (0, 4), "()", False)
            self.look(text.format(f"fn u -> {one}"), rule, (0, 4, 0), other)

    def test_what_comes_to_no_accepted_program(self):
        self.look("module M = do (let i = fn x -> x in (i 1, i true)) end", "value", (0, 0), "((fn x -> x) 1, (fn x -> x) true)", back=False)
        self.look("module M = do ((fn x -> x) 1, (fn x -> x) true) end", "named", (0, 0), "let z = (fn x -> x) 1 in (z, (fn x -> x) true)")
        self.look("module M = do (fn q -> q) 1 end", "call", (0, 0), "let q = 1 in q")
        self.look("module M = do let q = fn x -> x in (q 1, q true) end", "call", (0, 0), "(fn q -> (q 1, q true)) (fn x -> x)", False)
        self.look("module M = do 4 end", "value", (0, 0), "let x = z in 4", False)
        self.look("module M = do 4 end", "value", (0, 0), ("let", "x", ("con", "Q", None), ("int", 4)), False)
        self.look("module M = do 4 end", "value", (0, 0), "let x = fn y -> 1 + true in 4", False)
        self.look("module M = do 4 end", "alpha", (0, 0), ("int", True), False)
        self.look("module M = do 4 end", "alpha", (0, 0), (), False)

    def test_limits(self):
        deep = ("con", "Nil", None)
        for _ in range(38):
            deep = ("con", "Some", deep)
        program = (("module", "M", None, (("do", deep),)),)
        self.assertEqual(checked(program, [("value", (0, 0), ("let", "x", ("unit",), deep))])[0][3][0][1][0], "let")
        deeper = (("module", "M", None, (("do", ("con", "Some", deep)),)),)
        self.assertEqual(error_of(checked, deeper, [("value", (0, 0), ("let", "x", ("unit",), deeper[0][3][0][1]))]).position, 0)
        refs = "".join(f"let r{k} = ref({k}) " for k in range(4)) + "let t = fn x -> x < 1 let b = true let c = true"
        reads = " + ".join(f"!r{k}" for k in range(4))
        tests = "if t 1 then 1 else " * 6 + "0"
        self.look(f"module M = {refs} do tell({reads} + ({tests})) end", "rows", (0, 7, 0), f"0 + {reads} + ({tests})", True)
        self.look(f"module M = {refs} do tell(if b then {reads} else 1) end", "rows", (0, 7, 0), f"if b then {reads} + 0 else 1", True)
        self.look(f"module M = {refs} do (if b then tell({reads}) else tell({tests})) end", "rows", (0, 7), f"if b then tell({reads} + 0) else tell({tests})", False)
        row = lambda k: "(" + ", ".join("(" + ", ".join("_" if i != k and j != k else str(i + 4 * j) for i in range(4)) + ")" for j in range(4)) + ")"
        many = " | ".join([f"{row(k % 4)} -> {k}" for k in range(4)] + ["(" + ", ".join(f"({k}, {k + 1}, {k + 2}, {k + 3})" for _ in range(4)) + f") -> {k}" for k in range(4)])
        program = parse(f"module M = do fn x -> match x with {many} end end")
        self.assertEqual(error_of(checked, program, [("choices", (0, 0, 0), expr_at(program, (0, 0, 0)))]).position, 0)


class TestTyped(Steps):
    def test_rows(self):
        text = "module M = let r = ref(1) let s = ref(2) let f = fn x -> x + 1 exception E do {} end"
        for one, other, is_right in [
                ("!r + f 1", "(let a = !r in a + f 1)", True), ("!r + f 1", "f 1 + !r", False), ("tell(1)", "(tell(1); 2)", False), ("raise E", "raise E", False), ("!r", "!r", True), ("f", "f", False),
                ("(r := 1; s := 2)", "(s := 2; r := 1)", False), ("(r := 1; 3)", "(r := 1; r := 1; 3)", True), ("(1, 2)", "(1, 2)", False)]:
            self.look(text.format(one), "rows", (0, 4), other, is_right)
        self.look("module M = do fn x -> x + 0 end", "rows", (0, 0, 0), "x", False)
        self.look("module M = do fn x -> (x + 0, x + 1) end", "rows", (0, 0, 0, 1, 0) if False else (0, 0, 0, 0), "x")

    def test_choices(self):
        text = "module M = type t = A | B of int let x = A let n = 5 do {} end"
        for one, other, is_right in [
                ("match x with A -> 1 | B m -> m end", "match x with B k -> k | A -> 1 end", True), ("match x with A -> 1 | B m -> m end", "match x with B k -> k + 0 | A -> 1 end", False),
                ("match x with A -> 1 | B m -> m end", "match x with B k -> k end", False), ("match x with A -> 1 | B m -> n end", "match x with B n -> n | A -> 1 end", False),
                ("try n with NoMore -> 1 | _ -> 2 end", "try n with NoMore -> 1 | NoMore -> 5 | _ -> 2 end", True), ("try n with NoMore -> 1 end", "try n with r -> 1 end", False),
                ("match x with A -> 1 | _ -> 2 end", "1", False), ("1", "match x with A -> 1 | _ -> 1 end", False), ("match x with A -> 1 | _ -> 2 end", "match (x) with _ -> 2 end", False)]:
            self.look(text.format(one), "choices", (0, 3), other, is_right)

    def test_given_by_lets(self):
        for text, place, other, is_right in [
                ("do let x = (1, fn q -> q) in x", (0, 0, 1), "(1, fn q -> q)", True), ("do let x = (1, fn q -> q) in x", (0, 0, 1), "(1, fn z -> z)", False), ("do let x = ask() in x", (0, 0, 1), "ask()", False),
                ("do let x = 5 in 5", (0, 0, 1), "x", True), ("do let x = 5 in fn x -> 5", (0, 0, 1, 0), "x", False), ("do let y = 1 in let x = (y, 2) in fn y -> x", (0, 0, 1, 1, 0), "(y, 2)", False),
                ("do let y = 1 in let x = (y, 2) in fn z -> x", (0, 0, 1, 1, 0), "(y, 2)", True), ("do let y = 1 in let x = (y, 2) in fn y -> (y, 2)", (0, 0, 1, 1, 0), "x", False), ("do fn x -> x", (0, 0, 0), "5", False),
                ("do let x = 5 in let x = x in x", (0, 0, 1, 1), "x", False), ("do let x = 5 in let y = x in y", (0, 0, 1, 1), "x", True), ("do let x = 5 in let y = x in y", (0, 0, 1, 1), "5", False),
                ("let x = 5 do x", (0, 1), "5", True), ("let x = ref(1) do x", (0, 1), "ref(1)", False), ("let y = 1 let x = Some y do fn y -> x", (0, 2, 0), "Some y", False), ("let y = 1 let x = Some y do x", (0, 2), "Some y", True),
                ("let x = Nil type t = Nil do x", (0, 2), "Nil", False), ("let x = let a = 1 in a do x", (0, 1), "let a = 1 in a", False), ("do match 5 with x -> x end", (0, 0, 1), "5", False),
                ("let f = fn x -> fn y -> x do f 1", (0, 1, 0), "fn x -> fn y -> x", True), ("do let x = 5 in x", (0, 0, 0), "x", False), ("do let x = fn q -> q in (x 1, x true)", (0, 0, 1, 0, 0), "fn q -> q", True)]:
            self.look(f"module M = {text} end", "given", place, other, is_right)

    def test_given_by_recs(self):
        for text, place, other, is_right in [
                ("rec f x = f x do f", (0, 1), "fn x -> f x", True), ("rec f x = f x do f", (0, 0, 0, 0), "fn x -> f x", True), ("rec f x = g x and g y = f y do (f, g)", (0, 1, 1), "fn y -> f y", True),
                ("rec f x = g x and g y = f y do (f, g)", (0, 1, 1), "fn x -> g x", False), ("do rec f x = (g, x) and g y = f in f 1".replace("(g, x) and g y = f", "g x and g y = f y"), (0, 0, 2, 0), "fn x -> g x", True),
                ("rec f x = f x do let f = 1 in fn x -> x", (0, 1, 1), "fn x -> f x", False), ("rec f x = f x do fn q -> f", (0, 1, 0), "fn x -> f x", True), ("rec f x = f x do fn q -> f", (0, 1, 0), "fn y -> f y", False),
                ("do rec f x = x in fn x -> f x", (0, 0, 1, 0, 0), "fn x -> x", True)]:
            self.look(f"module M = {text} end", "given", place, other, is_right)
        self.look("module M = rec f x = f x do fn g -> (fn f -> g) end", "given", (0, 1, 0, 0), "fn x -> f x", False)

    def test_given_from_other_modules(self):
        text = "module A show f, h, g, C = type t = C of int let h = 1 let f = fn x -> match x with C y -> y + h | _ -> 2 end let hid = 7 let g = (hid, 1) rec s x = s x end module B = {} end"
        for inner, place, other, is_right in [
                ("do A.f", (1, 0), "fn x -> match x with A.C y -> y + A.h | _ -> 2 end", True), ("do A.f", (1, 0), "fn x -> match x with C y -> y + h | _ -> 2 end", False), ("do A.h", (1, 0), "1", True), ("do A.g", (1, 0), "(A.hid, 1)", False),
                ("let h = 3 do A.f", (1, 1), "fn x -> match x with A.C y -> y + A.h | _ -> 2 end", True)]:
            self.look(text.format(inner), "given", place, other, is_right)


class TestPrograms(unittest.TestCase):
    def look(self, text, rule, change, wanted):
        program = parse(text)
        if wanted is None:
            self.assertEqual(error_of(checked, program, [(rule, (), change)]).position, 0)
            return
        told = keeps(self, checked, program, [(rule, (), change)])
        self.assertEqual(program_text(told), program_text(parse(wanted)))
        self.assertEqual(error_of(checked, program, [(rule, (0,), change)]).position, 0)
        for word in rules():
            if word != rule:
                self.assertEqual(error_of(checked, program, [(word, (), change)]).position, 0, word)

    def test_each(self):
        for rule, text, change, wanted in [
                ("names", "module M = let x = 1 do x end", ("rename value", "M.x", "y"), "module M = let y = 1 do y end"), ("names", "module M = do fn x -> x end", ("rename local", (0, 0), 0, "y"), "module M = do fn y -> y end"),
                ("names", "module M = let x = 1 do fn y -> x end", ("rename value", "M.x", "y"), None), ("names", "module M = let x = 1 let y = 2 end", ("rename value", "M.x", "y"), None), ("names", "module M = let x = 1 end", ("rename value", "M.z", "y"), None),
                ("moved", "module M = let x = 1 let y = 2 end", ("move", "M.x", "M", 1), "module M = let y = 2 let x = 1 end"), ("moved", "module M = let x = 1 do x end", ("move", "M.x", "M", 1), None), ("moved", "module M = let x = 1 end", ("move", "M.x", "M", 1), None),
                ("flipped", "module M = let f = fn x -> fn y -> x do f 1 (ask()) end", ("flip", "M.f"), "module M = let f = fn y -> fn x -> x do f (ask()) 1 end"),
                ("flipped", "module M = let f = fn x -> fn y -> x do f (ask()) (ask()) end", ("flip", "M.f"), None), ("flipped", "module M = let f = fn x -> fn y -> x do f end", ("flip", "M.f"), None), ("flipped", "module M = let f = fn x -> fn x -> x end", ("flip", "M.f"), None),
                ("flipped", "module M = let f = fn x -> x end", ("flip", "M.f"), None), ("flipped", "module M = do (fn x -> 1) 2 end", ("unfold", (0, 0)), None), ("flipped", "module M = do (fn x -> 1) 2 end", ("fold", (0, 0), "f"), None),
                ("turned", "module M = exception E of int * bool do E (1, true) end", ("turn shape", "M.E", (1, 0)), "module M = exception E of bool * int do E (true, 1) end"),
                ("turned", "module M = exception E of int * bool do E (ask(), true) end", ("turn shape", "M.E", (1, 0)), None), ("turned", "module M = exception E of int * bool do fn p -> E p end", ("turn shape", "M.E", (1, 0)), None),
                ("turned", "module M = exception E of int * bool end", ("turn shape", "M.E", (1, 0, 2)), None), ("turned", "module M = exception E of int * bool end", ("turn shape", "M.F", (1, 0)), None), ("names", "module M = do 1 end", ("names",), None),
                ("turned", "module M = do 1 end", (), None), ("moved", "module M = do 1 end", (1,), None), ("flipped", "module M = do 1 end", ((),), None)]:
            self.look(text, rule, change, wanted)


class TestPapers(unittest.TestCase):
    def test_positions(self):
        program = parse("module M = do (ask(); 2) end")
        right = [("unused", (0, 0), parse_expr("let x = ask() in 2")), ("unused", (0, 0), parse_expr("ask(); 2"))]
        bad = ("unused", (0, 0), parse_expr("1"))
        self.assertEqual(checked(program, []), program)
        self.assertEqual(checked(program, right), program)
        self.assertEqual(checked(program, tuple(right)), program)
        for at in range(3):
            paper = right[:at] + [bad] + right[at:]
            self.assertEqual(error_of(checked, program, paper).position, at)
            self.assertIs(is_paper(program, program, paper), False)
        self.assertIs(keeps(self, is_paper, program, program, right), True)
        self.assertIs(is_paper(program, checked(program, right[:1]), right), False)
        self.assertIs(is_paper(program, checked(program, right[:1]), right[:1]), True)
        self.assertIs(is_paper(program, program, []), True)

    def test_two_hundred(self):
        program = parse("module M = do (ask(); 2) end")
        right = [("unused", (0, 0), parse_expr("let x = ask() in 2")), ("unused", (0, 0), parse_expr("ask(); 2"))]
        self.assertEqual(checked(program, right * 100), program)
        self.assertIs(is_paper(program, program, right * 100), True)
        long = right * 100 + right[:1]
        self.assertEqual(error_of(checked, program, long).value, long)
        self.assertIs(is_paper(program, program, long), False)
        last = right * 99 + right[:1] + [("unused", (0, 0), ("unit",))]
        self.assertEqual(error_of(checked, program, last).position, 199)

    def test_other_programs(self):
        program = parse("module M = do 2 end")
        for other in (parse("module M = do 3 end"), parse("module M = do 1 + true end"), parse("module N = do 2 end")):
            self.assertIs(is_paper(program, other, []), False)
        step = [("value", (0, 0), parse_expr("let x = 1 in 2"))]
        self.assertIs(is_paper(program, parse("module M = do let x = 1 in 2 end"), step), True)
        self.assertIs(is_paper(program, parse("module M = do let y = 1 in 2 end"), step), False)

    def test_errors(self):
        program = parse("module M = do 2 end")
        step = ("value", (0, 0), ("unit",))
        bad = [value for value in ODD if value not in ([], ())] + [
            [("Value", (0, 0), ())], [("value", [0, 0], ())], [("value", (0, True), ())], [("value", (0, 0), [])], [("value", (0, 0))], [("value", (0, 0), (), ())], [list(step)], [step, None], {0: step}, [("value", (0, -1), ())], [("value", (0, 0), None)]]
        look_at_errors(self, checked, [("program", program), ("paper", [])], [("program", InvalidProgram, bad_for(is_program)), ("paper", InvalidPaper, bad)])
        look_at_errors(self, is_paper, [("program", program), ("other", program), ("value", [])], [("program", InvalidProgram, bad_for(is_program)), ("other", InvalidProgram, bad_for(is_program))])
        for value in bad:
            self.assertIs(is_paper(program, program, value), False, value)
        wrong = parse("module M = do 1 + true end")
        self.assertIs(type(error_of(checked, wrong, [])), NotAccepted)
        self.assertIs(type(error_of(checked, wrong, [1])), InvalidPaper)
        self.assertIs(type(error_of(is_paper, wrong, wrong, [1])), NotAccepted)
        self.assertIs(type(error_of(is_paper, wrong, 1, [1])), InvalidProgram)

    def test_right_steps_of_random_programs_keep_runs(self):
        seen = {}
        for seed in range(60):
            rand = random.Random(seed)
            program = Typed(seed).program(3, 1, 2)
            if not is_accepted(program):
                continue
            exprs = [expr_at(program, place) for place in places(program)]
            for _ in range(25):
                place, more = rand.choice(places(program)), rand.choice(exprs)
                part = expr_at(program, place)
                if rand.random() < 0.5 and part[0] == "seq":
                    more = ("let", "q", part[1], part[2])
                elif rand.random() < 0.6:
                    more = ("let", "q", rand.choice([("unit",), ("int", 1)]), part)
                for rule in rules()[:9]:
                    told = error_of(checked, program, [(rule, place, more)])
                    if told is None:
                        result = checked(program, [(rule, place, more)])
                        self.assertIsNone(parting_run(program, result, rand, tries=1), (seed, rule, expr_text(more)))
                        seen[rule] = seen.get(rule, 0) + 1
        for rule in ("value", "unused", "alpha", "rows", "choices"):
            self.assertGreater(seen.get(rule, 0), 2, seen)


if __name__ == "__main__":
    unittest.main()
