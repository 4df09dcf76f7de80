"""Changes of a part at its place: [241] to [243], [246] to [248]."""

import random
import unittest

from checking import ODD, bad_for, error_of, keeps, look_at_errors, nested
from running import parting_run
from typed import Typed

from changedsame.errors import InvalidChange, InvalidExpr, InvalidPlace, InvalidProgram, NotAccepted, TooMany
from changedsame.infer import is_accepted
from changedsame.parser import parse, parse_expr
from changedsame.places import expr_at, places, put_at
from changedsame.plainruns import run_outer
from changedsame.replaces import decided_straight, is_refusal, new_part, sorts_there
from changedsame.spots import all_exprs, with_expr_at
from changedsame.trees import is_program, parts_of

TEXT = "module M = let r = ref(1) do let x = !r in let y = 2 in x + y rec f x = (x, x + 1) do (tell(1); tell(2); 3) end"


class TestNewPart(unittest.TestCase):
    def test_each_kind(self):
        program = parse(TEXT)
        for change, told in [
                (("swap", (0, 1)), ("part", parse_expr("let y = 2 in let x = !r in x + y"))),
                (("swap", (0, 3)), ("part", parse_expr("tell(2); tell(1); 3"))),
                (("inline", (0, 1)), ("part", parse_expr("let y = 2 in !r + y"))), (("drop", (0, 3)), ("part", parse_expr("tell(2); 3"))),
                (("drop", (0, 1)), ("clash", (0, 1, 1, 1, 0))), (("replace", (0, 2, 0), ("var", "r")), ("part", ("var", "r"))),
                (("extract", (0, 2, 0), (0, 2, 0, 1, 0), "q"), ("part", parse_expr("let q = x in (x, q + 1)"))),
                (("share", (0, 2, 0), (0, 2, 0, 1, 0), "q"), ("part", parse_expr("let q = x in (q, q + 1)"))),
                (("share", (0, 2, 0), (0, 2, 0, 1, 0), "x"), ("clash", (0, 2, 0, 0)))]:
            self.assertEqual(keeps(self, new_part, program, change), told)

    def test_errors(self):
        program = parse(TEXT)
        bad = ODD + [("swap", (0, 3, 1)), ("inline", (0, 3)), ("drop", (0, 0)), ("extract", (0, 1), (0, 1), "a"), ("share", (0, 2, 0), (0, 2, 0, 1), "A"),
                     ("replace", (0, 2, 0), ("var", "z")), ("replace", (0, 2, 0), ("con", "Nil", ("unit",))), ["swap", (0, 1)]]
        look_at_errors(self, new_part, [("program", program), ("change", ("swap", (0, 1)))],
                       [("program", InvalidProgram, bad_for(is_program)), ("change", InvalidChange, bad)])

    def test_not_accepted(self):
        for text in ("do 1 + true do 1; 2; 3", "do z do 1; 2; 3"):
            program = parse(f"module M = {text} end")
            self.assertIs(type(error_of(new_part, program, ("swap", (0, 1)))), NotAccepted)
            self.assertIs(type(error_of(new_part, program, ("swap", (0, 0)))), InvalidChange)
            self.assertIs(type(error_of(new_part, program, ("replace", (0, 1), ("unit",)))), NotAccepted)
        unbound = parse("module M = do z do fn x -> (x, z) end")
        for place in ((0, 0), (0, 1), (0, 1, 0), (0, 1, 0, 0), (0, 1, 0, 1)):
            self.assertIs(type(error_of(new_part, unbound, ("replace", place, ("int", 1)))), NotAccepted)
            self.assertIs(type(error_of(new_part, unbound, ("replace", place, ("var", "y")))), InvalidChange)
            wanted = NotAccepted if len(place) > 2 else InvalidChange
            self.assertIs(type(error_of(new_part, unbound, ("replace", place, ("var", "x")))), wanted)
        deep = parse("module M = do z do fn x -> fn y -> match x with v -> (let w = y in (w, z), z) end end")
        for name, place in [("x", (0, 1, 0, 0)), ("y", (0, 1, 0, 0)), ("v", (0, 1, 0, 0, 1, 1)), ("y", (0, 1, 0, 0, 1, 0, 1)), ("w", (0, 1, 0, 0, 1, 0, 1, 1))]:
            self.assertIs(type(error_of(new_part, deep, ("replace", place, ("var", name)))), NotAccepted, (name, place))
            self.assertIs(type(error_of(new_part, deep, ("replace", place[:-1], ("var", "w")))), {
                (0, 1, 0, 0, 1, 0, 1): NotAccepted}.get(place[:-1], InvalidChange))
        twice = parse("module M = let a = 1 let a = 2 do a end")
        self.assertIs(type(error_of(new_part, twice, ("replace", (0, 2), ("var", "a")))), NotAccepted)
        hidden = parse("module M show b = let a = 1 do a end")
        self.assertIs(type(error_of(new_part, hidden, ("replace", (0, 1), ("var", "a")))), NotAccepted)
        self.assertIs(type(error_of(new_part, hidden, ("replace", (0, 1), ("var", "c")))), InvalidChange)
        typed = parse("module M = do 1 end")
        self.assertEqual(new_part(typed, ("replace", (0, 0), parse_expr("1 + true"))), ("part", parse_expr("1 + true")))

    def test_too_large(self):
        many = ("int", 1)
        for _ in range(13):
            many = ("tuple", (("unit",), many, ("unit",)))
        uses = ("tuple", (("var", "x"),) * 4)
        program = (("module", "M", None, (("do", ("let", "x", many, ("tuple", (uses,) * 4))),)),)
        self.assertEqual(parts_of(program), 2 + 1 + 40 + 21)
        error = error_of(new_part, program, ("inline", (0, 0)))
        self.assertEqual((type(error), error.what, error.limit), (TooMany, "parts", 600))
        deep = ("var", "x")
        for _ in range(30):
            deep = ("con", "Some", deep)
        deep = (("module", "M", None, (("do", ("let", "x", many, deep)),)),)
        error = error_of(new_part, deep, ("inline", (0, 0)))
        self.assertEqual((type(error), error.what, error.limit), (TooMany, "depth", 40))


class TestSortsThere(unittest.TestCase):
    def test_each_sort(self):
        program = parse("module A = let n = 1 end module M = let r = ref(1) let b = true let f = fn x -> x + 1 let t = fn x -> x < 1 "
                        "let a = array(1, 2) let i = fn x -> x let u = () do (r := 1; f (!r)) do (if b then 1 else 2) do (if t 1 then !r else 3) "
                        "do a do i 1 do i true do u do A.n do fn q -> (q + 1, fn x -> x) do (i 1; i true) do fn z -> z do let w = i in w 1 end")
        place = lambda k, *more: (1, k) + more
        for at, told in [
                (place(7), [("f", "fun"), ("r", "ref")]), (place(8), [("b", "bool")]), (place(9), [("r", "ref"), ("t", "test")]),
                (place(10), None), (place(11), [("i", "fun")]), (place(12), None), (place(13), None), (place(14), None), (place(15), []),
                (place(15, 0), [("q", "int")]), (place(16), None), (place(16, 0), [("i", "fun")]), (place(17, 0), None), (place(18), None),
                (place(18, 1), [("w", "fun")]), (place(0), []), (place(0, 0), [])]:
            self.assertEqual(keeps(self, sorts_there, program, at, []), told, at)
        both = keeps(self, sorts_there, program, place(7), [parse_expr("if t 1 then u else ()")])
        self.assertIsNone(both)
        self.assertEqual(sorts_there(program, place(7), [parse_expr("if t 1 then r := 1 else ()"), parse_expr("r := 2")]), [("f", "fun"), ("r", "ref"), ("t", "test")])
        self.assertIsNone(sorts_there(program, place(11), [parse_expr("i true")]))
        self.assertIsNone(sorts_there(program, place(15, 0, 0), [parse_expr("q")]))
        self.assertIsNone(sorts_there(program, place(11), [parse_expr("A.n")]))

    def test_more_than_sorts_are(self):
        refs = " ".join(f"let r{k} = ref({k})" for k in range(5))
        program = parse(f"module M = {refs} do (!r0 + !r1 + !r2 + !r3 + !r4) end")
        self.assertEqual(sorts_there(program, (0, 5), []), [(f"r{k}", "ref") for k in range(5)])
        self.assertEqual(decided_straight(program, ("replace", (0, 5), parse_expr("!r1 + !r0 + !r2 + !r3 + !r4"))), ("refused", ("beyond", (0, 5))))

    def test_errors(self):
        program = parse("module M = let x = 1 do x + 1 end")
        look_at_errors(self, sorts_there, [("program", program), ("place", (0, 1)), ("exprs", [("int", 1)])], [
            ("program", InvalidProgram, bad_for(is_program)), ("place", InvalidPlace, bad_for(lambda value: False) + [(0, 2), (0, 1, 2), [0, 1]]),
            ("exprs", InvalidExpr, [None, 1, ("int", 1), [("int", True)], [("int", 1)] * 5, {}, "x", [1], [("int", 1), None], [("var", "y")],
                                    [("int", 1), ("prim", "add", (("int", 1), ("unit",)))]])])
        self.assertEqual(sorts_there(program, (0, 1), (("int", 1),) * 4), [("x", "int")])
        bad = parse("module M = do 1 + true do 1 end")
        self.assertIs(type(error_of(sorts_there, bad, (0, 1), [])), NotAccepted)
        self.assertIs(type(error_of(sorts_there, bad, (0, 1), [("var", "y")])), NotAccepted)
        self.assertIs(type(error_of(sorts_there, bad, (0, 1), [1])), InvalidExpr)
        many = BIG
        large = parse("module M = let x = 1 do x + 1 end")[0]
        large = (large[:3] + (large[3] + (("do", many),),),)
        for exprs, error in [([many, ("var", "y")], TooMany), ([("var", "y"), many], InvalidExpr), ([("int", 1), many], TooMany)]:
            self.assertIs(type(error_of(sorts_there, large, (0, 1), exprs)), error)
        deep = [nested("raise", 39, ("con", "NoMore", None)), nested("raise", 40, ("con", "NoMore", None))]
        self.assertEqual(sorts_there(program, (0, 1), deep[:1]), [("x", "int")])
        self.assertIs(type(error_of(sorts_there, program, (0, 1), deep[1:])), InvalidExpr)
        self.assertIs(type(error_of(sorts_there, program, (0, 1, 0), deep[:1])), TooMany)


def big_tuple():
    """An expression of 341 parts."""
    many = ("unit",)
    for _ in range(4):
        many = ("tuple", (many,) * 4)
    return many


BIG = big_tuple()

STRAIGHTS = ("module M = exception E let r = ref(1) let s = ref(2) let f = fn x -> x + 1 let t = fn x -> x < 1 let b = true "
             "do let x = {a} in let y = {b} in {c} end")


class TestDecided(unittest.TestCase):
    def look(self, program, change, told):
        found = keeps(self, decided_straight, program, change)
        self.assertEqual(found[0], "taken" if told == "taken" else "refused", (change, found))
        if told == "taken":
            part = new_part(program, change)[1]
            self.assertEqual(found[1], put_at(program, change[1], part))
            self.assertIsNone(parting_run(program, found[1], random.Random(1)))
            self.assertIs(is_refusal(program, change, ("beyond", change[1])), False)
            self.assertIs(is_refusal(program, change, found[1]), False)
            return
        self.assertEqual(found[1][0], told if isinstance(told, str) else told[0])
        if told != "parts":
            self.assertEqual(found[1], told)
        else:
            self.check_parts(program, change, found[1][1])
        self.assertIs(is_refusal(program, change, found[1]), True)
        for value in ODD + [("clash", (9,)), ("untyped", 9), ("beyond", (0, 9)), ("parts", None), ("parts", (program, program, [])), list(found[1]), found[1] + (1,), found]:
            self.assertIs(is_refusal(program, change, value), False, value)

    def check_parts(self, program, change, surroundings):
        near, far, inputs = surroundings
        part, new = expr_at(program, change[1]), new_part(program, change)[1]
        self.assertTrue(is_accepted(near) and is_accepted(far))
        self.assertTrue([at for at in places(near) if expr_at(near, at) == part and put_at(near, at, new) == far])
        first, last = run_outer(near, inputs, 2000), run_outer(far, inputs, 2000)
        self.assertNotEqual(first, last)
        self.assertNotIn(("spent",), (first[1], last[1]))

    def straight(self, a, b, c="x + y"):
        return parse(STRAIGHTS.format(a=a, b=b, c=c))

    def test_swaps_of_lets(self):
        place = (0, 6)
        for a, b, c, told in [
                ("!r", "f 1", "x + y", "parts"), ("!r", "ask()", "x + y", "taken"), ("!r", "(s := 2; 1)", "x + y", "parts"), ("!r", "!s", "x + y", "taken"),
                ("tell(1)", "2", "y", "taken"), ("2", "tell(1)", "x", "taken"), ("fn q -> q", "raise E", "x y", "taken"), ("raise E", "fn q -> q", "y x", "taken"),
                ("raise E", "ask()", "x + y", ("beyond", place)), ("tell(1)", "ask()", "y", ("beyond", place)), ("f 1", "x + 1", "x + y", ("clash", (0, 6, 1, 0, 0))),
                ("y", "1", "x", None), ("ask()", "ask()", "x + y", "taken"), ("ask()", "ask()", "x - y", "parts"), ("ref(1)", "ref(2)", "!x + !y", "taken"),
                ("f 1", "t 2", "x", ("beyond", place)), ("r", "(r := 5; 1)", "!x + y", "taken"), ("if b then 1 else 2", "if b then 3 else 4", "x + y", "taken")]:
            if told is None:
                continue
            self.look(self.straight(a, b, c), ("swap", place), told)

    def test_clashes_of_swaps(self):
        for text, told in [
                ("let y = 5 do let x = y in let y = 2 in x + y", ("clash", (0, 1, 0))), ("let x = 5 do let x = 1 in let y = 2 in x + y", "taken"),
                ("let y = 5 do let x = (1, y) in let y = x in 3", ("clash", (0, 1, 0, 1))), ("do let x = 1 in let x = 2 in x", ("clash", (0, 0, 1, 1))),
                ("do let x = 1 in let x = ask() in 3", "taken"), ("do (1; (ask(); 2))", "taken"), ("do (tell(1); (ask(); 2))", "parts"),
                ("do (ask(); ((fn x -> x); 2))", "taken"), ("do ((fn x -> x); (ask(); 2))", "taken"), ("do (ask(); (ask(); 2))", "taken")]:
            program = parse(f"module M = {text} end")
            self.look(program, ("swap", (0, len(program[0][3]) - 1)), told)

    def test_inlines(self):
        place = (0, 6)
        for text, told in [
                ("let x = fn q -> q in (x 1, x 2)", "taken"), ("let x = raise E in tell(x)", "taken"), ("let x = ask() in x", "taken"),
                ("let x = f 1 in (x, ask())", "taken"), ("let x = f 1 in (ask(), x)", ("beyond", place)), ("let x = f 1 in (r, x)", "taken"),
                ("let x = raise E in x", ("beyond", place)), ("let x = !r in (s := 1; x)", "parts"), ("let x = !r in tell(x + x)", "taken"),
                ("let x = !r in 3", "taken"), ("let x = ask() in 3", "parts"), ("let x = ask() in x + x", "parts"), ("let x = raise E in fn q -> x", ("beyond", place)),
                ("let x = r in let r = s in !x", ("clash", (0, 6, 1, 1, 0))), ("let x = r in fn r -> x", ("clash", (0, 6, 1, 0))), ("let r = !r in r", "taken"),
                ("let x = fn u -> u in match 1 with x -> x | _ -> 2 end", "taken"), ("let x = (!r, 1) in x", ("beyond", place)),
                ("let x = ref(1) in (x := 2; !x)", "parts"), ("let x = raise E in match x with 1 -> 2 | _ -> 3 end", "taken"),
                ("let x = raise E in match 1 with 1 -> x | _ -> 3 end", ("beyond", place)), ("let x = f 2 in if b then x else x", "taken"), ("let x = f 2 in if t 1 then x else 3", "parts"),
                ("let x = t 1 in if x then (1, 2) else (2, 3)", "taken"), ("let x = !r in (x, x)", ("beyond", place))]:
            program = parse(STRAIGHTS.replace("let x = {a} in let y = {b} in {c}", text))
            self.look(program, ("inline", place), told)

    def test_untyped(self):
        program = parse("module M = let i = (let g = fn x -> x in (g 1, g true)) let j = let g = fn x -> x in fn y -> g y do j 1 do j true end")
        self.assertIsNotNone(program)
        program = parse("module M = let j = fn y -> (y, 1) do (j 1, j true) end")
        self.look(program, ("extract", (0, 0), (0, 0, 0), "k"), ("clash", (0, 0, 0, 0)))
        program = parse("module M = let u = 1 do let k = fn x -> x in (k 1, k true) end")
        self.look(program, ("replace", (0, 0), parse_expr("1 + true")), ("untyped", 0))
        self.look(program, ("replace", (0, 1, 0), parse_expr("let k = fn x -> x in k")), ("untyped", 1))
        self.look(parse("module M = let u = 1 do let k = fn x -> x in k 1 end"), ("replace", (0, 1, 0), parse_expr("let k = fn x -> x in k")), ("beyond", (0, 1, 0)))
        self.look(program, ("replace", (0, 1, 0), parse_expr("(fn x -> x) (fn x -> x)")), ("untyped", 1))
        self.look(program, ("replace", (0, 1, 0), parse_expr("fn z -> z")), "taken")
        self.look(parse("module M = let f = fn x -> x do (f 1, f true) end"), ("extract", (0, 0), (0, 0, 0), "q"), ("clash", (0, 0, 0)))
        self.look(parse("module M = let f = let a = ref(1) in fn x -> x do f 1 do 5 end"), ("drop", (0, 0)), ("beyond", (0, 0)))

    def test_drops_extracts_shares(self):
        place = (0, 6)
        for text, change, told in [
                ("let x = 1 in 2", ("drop",), "taken"), ("let x = !r in 2", ("drop",), "taken"), ("let x = f 1 in 2", ("drop",), "parts"), ("(1; 2)", ("drop",), "taken"),
                ("let x = raise E in 2", ("drop",), ("beyond", place)), ("(raise E; 2)", ("drop",), ("beyond", place)), ("let x = 1 in x", ("drop",), ("clash", (0, 6, 1))),
                ("(ref(1); 2)", ("drop",), "taken"), ("(ask(); 2)", ("drop",), "parts"), ("(f 1, f 2)", ("extract", (0,), "k"), "taken"),
                ("(f 1, f 2)", ("extract", (1,), "k"), ("beyond", place)), ("(fn q -> q, f 2)", ("extract", (1,), "k"), "taken"), ("f 1 + f 2", ("extract", (1,), "k"), "parts"),
                ("!r + !s", ("extract", (1,), "k"), "taken"), ("!r + !r", ("share", (1,), "k"), "taken"), ("f 1 + f 1", ("share", (1,), "k"), "parts"),
                ("(1, 1)", ("share", (1,), "k"), "taken"), ("(1, k)", ("extract", (0,), "k"), None), ("let q = f 1 in q", ("extract", (1,), "k"), ("clash", (0, 6, 1))),
                ("fn q -> (f, q)", ("extract", (0, 0), "k"), "taken"), ("fn k -> (f, 1)", ("extract", (0, 0), "k"), ("clash", (0, 6, 0, 0))),
                ("raise (let z = f 1 in E)", ("extract", (0,), "k"), "taken"), ("let q = (f 1, f 2) in q", ("extract", (0, 0), "k"), ("beyond", place))]:
            if told is None:
                continue
            program = parse(STRAIGHTS.replace("let x = {a} in let y = {b} in {c}", text))
            whole = (change[0], place) if change[0] == "drop" else (change[0], place, place + change[1], change[2])
            self.look(program, whole, told)

    def test_replaces(self):
        place = (0, 6)
        for text, other, told in [
                ("!r + !r", "2 * !r", "taken"), ("f 1", "f 2", "parts"), ("(r := 1; r := 2)", "r := 2", "taken"), ("tell(1)", "tell(1); ()", "taken"),
                ("tell(1)", "1", ("beyond", place)), ("if t 1 then 1 else 2", "if t 1 then 2 else 1", "parts"), ("r", "s", "parts"), ("ref(1)", "ref(1)", "taken"),
                ("ref(1)", "r", "parts"), ("fn x -> 1", "fn x -> 1", "taken"), ("fn x -> 1", "fn y -> 1", "taken"), ("fn x -> 1", "fn y -> 2", ("beyond", place)),
                ("if b then r else s", "if b then s else r", "parts"), ("!r", "!r + 0", "taken"), ("(r := 1; s := 1)", "(s := 1; r := 1)", "taken"),
                ("f 1", "f 1 + 4294967", "parts"), ("1", "true", ("beyond", place)), ("(f 1, 2)", "(f 1, 2)", "taken")]:
            program = parse(STRAIGHTS.replace("let x = {a} in let y = {b} in {c}", text))
            self.look(program, ("replace", place, parse_expr(other)), told)

    def test_numbers_of_reasons_are_no_truths(self):
        program = parse("module M = let u = 1 do let k = 1 in k end")
        self.assertIs(is_refusal(program, ("drop", (0, 1)), ("clash", (0, 1, 1))), True)
        self.assertIs(is_refusal(program, ("drop", (0, 1)), ("clash", (False, 1, 1))), False)
        self.assertIs(is_refusal(program, ("drop", (0, 1)), ("clash", (0, 1, True))), False)
        clash = parse("module M = do let k = 1 in tell(k) do 1 end")
        self.assertIs(is_refusal(clash, ("replace", (0, 1), parse_expr("1 + true")), ("untyped", 1)), True)
        self.assertIs(is_refusal(clash, ("replace", (0, 1), parse_expr("1 + true")), ("untyped", True)), False)
        self.assertIs(is_refusal(clash, ("replace", (0, 1), parse_expr("(1, 2)")), ("beyond", (0, 1))), True)
        self.assertIs(is_refusal(clash, ("replace", (0, 1), parse_expr("(1, 2)")), ("beyond", (0, True))), False)

    def test_too_many_cases(self):
        refs = " ".join(f"let r{k} = ref(1)" for k in range(4))
        reads = " + ".join(f"!r{k}" for k in range(4))
        def program(many):
            tests = "if t 1 then 1 else " * many
            return parse(f"module M = {refs} let t = fn x -> x < 1 let b = true do (tell(if b then 1 else 2); {reads} + ({tests}0)) end")

        five, six = program(5), program(6)
        other = parse_expr(f"if b then (tell(1); {reads} + 1) else 2")
        self.assertEqual(decided_straight(five, ("replace", (0, 6), other))[1][0], "parts")
        many = with_expr_at(six, (0, 6), parse_expr(f"{reads} + ({'if t 1 then 1 else ' * 6}0)"))
        for call in (decided_straight, lambda *args: is_refusal(*args, None)):
            error = error_of(call, many, ("replace", (0, 6), other))
            self.assertEqual((type(error), error.what, error.limit), (TooMany, "cases", 1000))

    def test_errors(self):
        program = parse("module M = do (1; 2; 3) end")
        bad = [value for value in ODD if value != ("x",)] + [("swap", (0, 0, 1)), ("inline", (0, 0)), ["swap", (0, 0)]]
        for call, more in ((decided_straight, []), (is_refusal, [("value", None)])):
            look_at_errors(self, call, [("program", program), ("change", ("swap", (0, 0)))] + more,
                           [("program", InvalidProgram, bad_for(is_program)), ("change", InvalidChange, bad)])
            values = [value for _, value in more]
            self.assertIs(type(error_of(call, parse("module M = do 1 + true do (1; 2; 3) end"), ("swap", (0, 1)), *values)), NotAccepted)
            large = (program[0][:3] + (program[0][3] + (("do", BIG),),),)
            error = error_of(call, large, ("replace", (0, 0), BIG), *values)
            self.assertEqual((type(error), error.what, error.limit), (TooMany, "parts", 600))

    def test_random_changes(self):
        seen = {}
        for seed in range(60):
            rand = random.Random(seed)
            program = Typed(seed).program(3, 1, 2)
            if not is_accepted(program):
                continue
            exprs = all_exprs(program)
            for place, expr in rand.sample(exprs, min(len(exprs), 12)):
                inside = [at for at, _ in exprs if at[:len(place)] == place and at != place]
                changes = [(word, place) for word in ("swap", "inline", "drop")] + [("replace", place, rand.choice(exprs)[1])]
                if inside:
                    changes += [(word, place, rand.choice(inside), rand.choice(["a", "q"])) for word in ("extract", "share")]
                for change in changes:
                    told = error_of(decided_straight, program, change) or decided_straight(program, change)
                    if isinstance(told, Exception):
                        self.assertIsInstance(told, (InvalidChange, TooMany))
                        continue
                    seen[(change[0], told[0])] = seen.get((change[0], told[0]), 0) + 1
                    if told[0] == "taken":
                        self.assertIsNone(parting_run(program, told[1], rand, tries=2), (seed, change))
                    else:
                        self.assertTrue(is_refusal(program, change, told[1]))
        self.assertGreater(min(seen[(word, "taken")] for word in ("inline", "drop", "extract", "share")), 5)


if __name__ == "__main__":
    unittest.main()
