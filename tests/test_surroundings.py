"""Partings: [221], [224], [226]."""

import unittest

from checking import ODD, error_of, keeps, look_at_errors
from straightmaking import Straight
from test_straights import NOT_SORTS

from changedsame.alikes import first_difference
from changedsame.errors import InvalidSorts, InvalidStraight, TooMany
from changedsame.infer import is_accepted
from changedsame.parser import parse, parse_expr
from changedsame.places import expr_at, places, put_at
from changedsame.plainruns import run_outer
from changedsame.rows import row
from changedsame.straights import is_straight, sort_of
from changedsame.surroundings import is_parting, parting

SORTS = [("x", "int"), ("y", "int"), ("r", "ref"), ("b", "bool"), ("s", "ref"), ("f", "fun"), ("t", "test"), ("g", "fun")]

# In each way in which two points can be unlike: the words of the points, then the texts of the parts.
UNLIKE = [
    ("end/end", "1", "2"), ("end/end", "x", "y"), ("end/end", "x", "x + 1"), ("end/end", "x + y", "3 * x + y"),
    ("end/end", "r", "s"), ("end/end", "r", "ref(!r)"), ("end/end", "ref(1)", "ref(2)"), ("end/end", "ref(x)", "ref(y)"),
    ("end/end", "r := 1", "()"), ("end/end", "s := x", "()"), ("end/end", "r := !s", "s := !r"), ("end/end", "f 1; !r", "f 1; !s"),
    ("end/end", "f 1", "f 1; 0"), ("end/end", "f 1 + f 2", "f 1; f 2"), ("end/end", "ask()", "ask(); 0"), ("end/end", "ask() + ask()", "ask() - ask()"),
    ("end/end", "f 1; r := 1", "f 1; ()"), ("end/end", "f 1; f 2; !s", "f 1; let a = !s in f 2; a"), ("end/end", "2147483647 * x", "x - x"),
    ("end/end", "f 1; f 2; !r", "f 1; f 2; 0"), ("end/end", "f 1; f 2; f 3; !r + !s", "f 1; f 2; f 3; 2 * !s"),
    ("end/end", "f 1; f (f 2)", "f 1; f (f 2); 0"),
    ("end/end", "if t 1 then 1 else 2", "if t 1 then 2 else 2"), ("end/end", "if b then 1 else 2", "if b then 1 else 3"),
    ("tell/tell", "tell(1); ()", "tell(2); ()"), ("tell/tell", "tell(x)", "tell(y)"), ("tell/tell", "f 1; tell(!r)", "f 1; tell(!s)"),
    ("tell/end", "tell(1)", "()"), ("end/tell", "5", "tell(101); 5"), ("tell/end", "tell(101); tell(201)", "()"), ("tell/tell", "tell(5); tell(101)", "tell(5); tell(102)"),
    ("tell/ask", "tell(0); ask()", "let a = ask() in tell(0); a"), ("ask/end", "ask(); 1", "1"), ("ask/ask", "r := 1; ask()", "let a = ask() in r := 1; a"),
    ("ask/ask", "ask(); s := x; ask()", "ask(); ask()"), ("ask/ask", "f 1; r := !s; ask()", "f 1; ask()"), ("ask/ask", "r := 1; ask(); 2", "r := 2; ask(); 2"),
    ("call/call", "f 1", "g 1"), ("call/call", "f 1", "f 2"), ("call/call", "f x", "f y"), ("call/call", "r := 1; f 1", "f 1"),
    ("call/call", "f (f 1)", "f 1; f 1"), ("call/call", "s := !r; f 1", "r := !s; f 1"), ("call/test", "f 1", "if t 1 then f 1 else 2"),
    ("call/end", "f 1; 2", "2"), ("call/tell", "f 1; tell(105)", "tell(105); f 1; ()"), ("call/ask", "f 1 + ask()", "let a = ask() in f 1 + a"),
    ("test/test", "if t 1 then 1 else 2", "if t 2 then 1 else 2"), ("test/test", "r := 1; if t 1 then 1 else 2", "if t 1 then 1 else 2"),
    ("test/end", "if t 1 then 1 else 1", "1"), ("test/ask", "(if t 1 then 1 else 1) + ask()", "let a = ask() in (if t 1 then 1 else 1) + a"),
    ("test/tell", "(if t 1 then 1 else 1); tell(107)", "tell(107); if t 1 then () else ()"),
    # What is told here is what the surroundings would tell if they did not look at it first.
    ("tell/call", "tell(107); tell(0); tell(1); 0", "f 1; 0"), ("call/tell", "f 1; 0", "tell(107); tell(0); tell(1); 0"),
    ("tell/test", "tell(108); tell(0); tell(1); 0", "if t 1 then 0 else 0"),
    ("ask/ask", "tell(5); r := 1; let a = ask() in r := 2; a", "tell(5); r := 3; let a = ask() in r := 2; a"),
    ("end/end", "if t 1 then 1 else if t 2 then 2 else 3", "if t 1 then 1 else if t 2 then 4 else 3"),
    ("end/test", "if t 1 then (if t 2 then 1 else 2) else 3", "if t 1 then 1 else (if t 2 then 3 else 3)"),
]


class TestParting(unittest.TestCase):
    def look(self, one, other, sorts):
        found = keeps(self, parting, one, other, sorts)
        near, far, inputs = found
        self.assertIsInstance(found, tuple)
        self.assertIsInstance(inputs, list)
        self.assertTrue(is_accepted(near) and is_accepted(far))
        self.assertTrue([place for place in places(near) if expr_at(near, place) == one and put_at(near, place, other) == far])
        first, last = run_outer(near, inputs, 2000), run_outer(far, inputs, 2000)
        self.assertNotEqual(first, last)
        self.assertNotIn(("spent",), (first[1], last[1]))
        self.assertIs(is_parting(one, other, sorts, found), True)
        self.assertIs(is_parting(one, other, sorts, (near, far, tuple(inputs))), True)
        self.assertIs(is_parting(other, one, sorts, (far, near, inputs)), True)
        self.assertIs(is_parting(one, other, sorts, (near, near, inputs)), False)
        self.assertIs(is_parting(one, other, sorts, (far, far, inputs)), False)
        self.assertIs(is_parting(one, other, sorts, list(found)), False)

    def test_each_way(self):
        for words, one, other in UNLIKE:
            one, other = parse_expr(one), parse_expr(other)
            case = first_difference(one, other, SORTS)
            points = [row(part, SORTS, *case[:3])[case[3]][0] for part in (one, other)]
            self.assertEqual("/".join(points), words, (one, other))
            self.look(one, other, SORTS)
            self.look(other, one, tuple(SORTS))

    def test_random_parts(self):
        for seed in range(70):
            maker = Straight(5000 + seed)
            kind = maker.pick(["int", "unit", "ref"])
            one, other = maker.part(kind, 5), maker.part(kind, 5)
            if not all(is_straight(part, maker.sorts) and sort_of(part, maker.sorts) == kind for part in (one, other)):
                continue
            try:
                case = first_difference(one, other, maker.sorts)
            except TooMany:
                continue
            if case is None:
                self.assertIsNone(parting(one, other, maker.sorts))
            else:
                self.look(one, other, maker.sorts)

    def test_names_that_surroundings_have_too(self):
        for name in ("c0", "look", "calls", "over", "leave", "n", "m", "v", "results"):
            for sort, one, other in (("int", ("var", name), ("int", 5)), ("ref", ("prim", "get", (("var", name),)), ("int", 5)),
                                     ("fun", ("call", ("var", name), ("int", 1)), ("int", 5))):
                self.look(one, other, [(name, sort), ("z", "ref")])
            one = ("let", name, ("int", 1), ("prim", "ask", ()))
            self.look(one, ("int", 0), [("r", "ref")])

    def test_the_largest_parts(self):
        deep = ("var", "x")
        for _ in range(23):
            deep = ("call", ("var", "f"), deep)
        self.look(deep, ("int", 1), SORTS)
        self.look(deep, ("prim", "sub", (deep[2], ("int", 0))), SORTS)
        rows = ("call", ("var", "f"), ("int", 1))
        many = rows
        for _ in range(13):
            many = ("seq", rows, many)
        self.look(many, many[2], SORTS)
        calls = ("int", 0)
        for _ in range(18):
            calls = ("call", ("var", "f"), calls)
        tests = ("if", ("call", ("var", "t"), ("int", 1)), ("int", 1), ("int", 2))
        self.look(("seq", tests, ("seq", tests, calls)), ("seq", tests, ("seq", tests, ("seq", calls, ("int", 0)))), SORTS)

    def test_alike_parts_have_none(self):
        for one, other in [("x + x", "2 * x"), ("r := 1; r := 2", "r := 2"), ("f 1", "let a = f 1 in a"), ("if b then r else r", "r")]:
            one, other = parse_expr(one), parse_expr(other)
            self.assertIsNone(parting(one, other, SORTS))
            both = parting(parse_expr("1"), parse_expr("2"), SORTS)
            self.assertIs(is_parting(one, other, SORTS, both), False)


class TestIsParting(unittest.TestCase):
    ONE, OTHER = parse_expr("x + 1"), parse_expr("x + 2")

    def told(self, near, far, inputs=(), one=None, other=None):
        return is_parting(one or self.ONE, other or self.OTHER, SORTS, (parse(near), parse(far), list(inputs)))

    def test_own_partings(self):
        self.assertTrue(self.told("module M = let x = 4 do tell(x + 1) end", "module M = let x = 4 do tell(x + 2) end"))
        self.assertTrue(self.told("module M = let x = 4 do let a = x + 1 in if a = 5 then tell(1) else 1 / 0; () end",
                                  "module M = let x = 4 do let a = x + 2 in if a = 5 then tell(1) else 1 / 0; () end"))
        self.assertTrue(self.told("module M = do let x = ask() in array(x + 1, 1) end", "module M = do let x = ask() in array(x + 2, 1) end", [63]))
        self.assertTrue(self.told("module M = let x = 4 do x + 1 do tell(x + 1) end", "module M = let x = 4 do x + 1 do tell(x + 2) end"))

    def test_no_partings(self):
        near, far = "module M = let x = 4 do tell(x + 1) end", "module M = let x = 4 do tell(x + 2) end"
        for one, other in [
                (near, near), (far, near), (near, "module M = let x = 5 do tell(x + 2) end"), (near, "module N = let x = 4 do tell(x + 2) end"),
                (near.replace("x + 1)", "x + 1); tell(x + 1)"), near.replace("x + 1)", "x + 2); tell(x + 2)")),
                (near.replace("tell", ""), far.replace("tell", "")), (near.replace("let x", "let y"), far.replace("let x", "let y")),
                (near.replace("4", "true"), far.replace("4", "true")), ("module M = do 1 end", "module M = do 2 end"),
                ("module M = rec f x = f (x + 1) do f 1 end", "module M = rec f x = f (x + 2) do f 1 end"),
                ("module M = rec f x = tell(x); f (x + 1) do f 1 end", "module M = rec f x = tell(x); f (x + 2) do f 1 end")]:
            self.assertIs(self.told(one, other), False, (one, other))
        loops = "rec go x = go x let n = PART do (tell(n); if n = "
        for text in (loops + "5 then go 1 else 2)", loops + "6 then go 1 else 2)"):
            one = f"module M = let x = 4 {text} end"
            self.assertIs(self.told(one.replace("PART", "x + 1"), one.replace("PART", "x + 2")), False, text)
        text = "module M = rec f n = if n = 0 then 0 else f (n - 1) let x = 4 do (f MANY; tell(x + 1)) end"
        for many, is_enough in ((1999, True), (2000, False)):
            one = text.replace("MANY", str(many))
            self.assertIs(self.told(one, one.replace("x + 1", "x + 2")), is_enough)

    def test_other_parts(self):
        near, far = "module M = let x = 4 do tell(x + 1) end", "module M = let x = 4 do tell(x + 2) end"
        for one, other in [("x + 3", "x + 2"), ("x + 1", "x + 3"), ("x + 3", "x + 4"), ("x + 2", "x + 1"), ("1 + x", "2 + x")]:
            self.assertIs(self.told(near, far, [], parse_expr(one), parse_expr(other)), False, (one, other))
        for near, far, one, other in [
                ("do tell(1)", "do tell(y)", "1", "y"), ("let y = true do tell(1)", "let y = true do tell(y)", "1", "y"),
                ("do tell(y)", "do tell(1)", "y", "1"), ("let y = true do tell(y)", "let y = true do tell(1)", "y", "1")]:
            near, far = f"module M = {near} end", f"module M = {far} end"
            self.assertIs(self.told(near, far, [], parse_expr(one), parse_expr(other)), False, (near, far))

    def test_any_value(self):
        near, far = parse("module M = let x = 4 do tell(x + 1) end"), parse("module M = let x = 4 do tell(x + 2) end")
        self.assertIs(is_parting(self.ONE, self.OTHER, SORTS, (near, far, [])), True)
        for value in ODD + [(near, far), (near, far, None), (near, far, [True]), (near, far, [2 ** 31]), (near, far, [1] * 201),
                            [near, far, []], (list(near), far, []), (near, None, []), (None, far, []), (near, far, [], [])]:
            self.assertIs(is_parting(self.ONE, self.OTHER, SORTS, value), False, value)

    def test_errors(self):
        not_straight = [value for value in ODD + [parse_expr("x * y"), parse_expr("z")] if not is_straight(value, SORTS)]
        other_sort = [("unit",), ("var", "r"), parse_expr("ref(1)"), parse_expr("tell(1)")]
        good = [("one", self.ONE), ("other", self.OTHER), ("sorts", SORTS)]
        errors = [("one", InvalidStraight, not_straight), ("other", InvalidStraight, not_straight + other_sort)]
        for call, more in ((parting, []), (is_parting, [("value", None)])):
            look_at_errors(self, call, good + more, errors)
            look_at_errors(self, call, good + more, [("sorts", InvalidSorts, NOT_SORTS)])
            self.assertIsInstance(error_of(call, None, None, None, *[None for _ in more]), InvalidSorts)

    def test_too_many_cases(self):
        sorts = [(f"r{k}", "ref") for k in range(4)] + [("a", "bool"), ("b", "bool"), ("c", "bool"), ("t", "test")]
        one = parse_expr(" + ".join(["(if t 1 then 1 else 2)"] * 4))
        error = error_of(parting, one, ("int", 1), sorts)
        self.assertEqual((type(error), error.what, error.limit), (TooMany, "cases", 1000))
        self.assertIs(is_parting(one, ("int", 1), sorts, None), False)
        near = parse("module M = let t = fn x -> true do tell((if t 1 then 1 else 2) + (if t 1 then 1 else 2) + "
                     "(if t 1 then 1 else 2) + (if t 1 then 1 else 2)) end")
        far = parse("module M = let t = fn x -> true do tell(1) end")
        self.assertIs(is_parting(one, ("int", 1), sorts, (near, far, [])), True)


if __name__ == "__main__":
    unittest.main()
