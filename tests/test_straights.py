"""Sorts and straight parts: [211], [212]."""

import unittest

from checking import ODD, bad_for, keeps, look_at_errors
from straightmaking import Straight

from changedsame.errors import InvalidExpr, InvalidSorts
from changedsame.parser import parse_expr
from changedsame.straights import is_sorts, is_straight, sort_of
from changedsame.trees import is_expr

SORTS = [("x", "int"), ("y", "int"), ("r", "ref"), ("s", "ref"), ("b", "bool"), ("f", "fun"), ("t", "test")]
NOT_SORTS = [value for value in ODD if value not in ([], ())] + [
    [("x", "unit")], [("x", "Int")], [("X", "int")], [("M.x", "int")], [("if", "int")], [("x", "int"), ("x", "ref")], [["x", "int"]],
    [("x", "int", 1)], [("x",)], [("x", ["int"])], {"x": "int"}, [(f"x{k}", "int") for k in range(9)],
    [(f"x{k}", "ref") for k in range(5)], [(f"x{k}", "bool") for k in range(4)], ("x", "int"), [("x" * 21, "int")]]


def told(text, sorts=SORTS):
    return sort_of(parse_expr(text), sorts)


class TestSorts(unittest.TestCase):
    def test_bounds(self):
        for value in [[], (), SORTS, tuple(SORTS), [(f"x{k}", "int") for k in range(8)], [(f"x{k}", "fun") for k in range(8)],
                      [(f"x{k}", "test") for k in range(8)], [(f"x{k}", "ref") for k in range(4)], [(f"x{k}", "bool") for k in range(3)],
                      [("x" * 20, "int")]]:
            self.assertIs(is_sorts(value), True, value)
        for value in NOT_SORTS:
            self.assertIs(is_sorts(value), False, value)


class TestStraights(unittest.TestCase):
    def test_each_form(self):
        for text, sort in [
                ("5", "int"), ("()", "unit"), ("x", "int"), ("r", "ref"), ("b", None), ("f", None), ("t", None), ("z", None),
                ("true", None), ("x + 1", "int"), ("x - y", "int"), ("x + r", None), ("x + ()", None), ("2 * x", "int"), ("x * ~2", "int"),
                ("x * y", None), ("2 * 3", "int"), ("2 * r", None), ("(1 + 1) * x", None), ("x / 2", None), ("x mod 2", None), ("x = 1", None),
                ("!r", "int"), ("!x", None), ("!(ref(1))", "int"), ("r := 1", "unit"), ("r := s", None), ("x := 1", None), ("tell(x)", "unit"),
                ("tell(r)", None), ("tell(())", None), ("ask()", "int"), ("ref(x)", "ref"), ("ref(r)", None), ("ref(())", None), ("f 1", "int"),
                ("f (f x)", "int"), ("f r", None), ("f ()", None), ("t 1", None), ("x 1", None), ("z 1", None), ("(f 1) 2", None),
                ("(let a = 1 in f) 1", None), ("(fn x -> x) 1", None), ("(fn f -> 2) 1", None), ("() 1", None), ("(let f = 2 in 3) 1", None), ("if () then 1 else 2", None),
                ("if (let b = 1 in 2) then 1 else 2", None), ("if (fn b -> 1) then 1 else 2", None), ("let a = 1 in a", "int"), ("let a = r in !a", "int"),
                ("let a = () in 1", None), ("let a = tell(1) in 1", None), ("let a = f in a 1", None), ("let a = b in 1", None),
                ("let a = 1 in r", "ref"), ("let a = 1 in ()", "unit"), ("1; 2", "int"), ("r; ()", "unit"), ("tell(1); r", "ref"), ("b; 1", None),
                ("1; b", None), ("if b then 1 else 2", "int"), ("if b then r else s", "ref"), ("if b then () else tell(1)", "unit"),
                ("if b then 1 else r", None), ("if b then 1 else ()", None), ("if t 1 then 1 else 2", "int"), ("if t r then 1 else 2", None),
                ("if f 1 then 1 else 2", None), ("if x then 1 else 2", None), ("if true then 1 else 2", None), ("if b then b else b", None),
                ("if t (f x) then 1 else 2", "int"), ("same(r, s)", None), ("not(b)", None), ("array(1, 2)", None), ("(1, 2)", None),
                ("Nil", None), ("raise Bounds", None), ("match x with _ -> 1 end", None), ("try x with _ -> 1 end", None),
                ("rec h a = a in 1", None), ("fn a -> a", None), ("M.x", None), ("M.f 1", None)]:
            self.assertEqual(told(text), sort, text)

    def test_names_that_a_let_hides(self):
        for text, sort in [
                ("let x = r in !x", "int"), ("let x = r in x + 1", None), ("let r = 1 in r", "int"), ("let r = 1 in !r", None),
                ("let f = 1 in f", "int"), ("let f = 1 in f 2", None), ("let f = f 1 in f + 1", "int"), ("let b = 1 in b", "int"),
                ("let b = 1 in if b then 1 else 2", None), ("let t = 1 in if t 1 then 1 else 2", None), ("(let f = 1 in f) + f 2", "int"),
                ("let a = 1 in let a = r in a", "ref"), ("if b then let b = 1 in b else 2", "int")]:
            self.assertEqual(told(text), sort, text)

    def test_sorts_tell_what_is_open(self):
        self.assertEqual(told("x", []), None)
        self.assertEqual(told("5", []), "int")
        self.assertEqual(told("x", [("x", "ref")]), "ref")
        self.assertEqual(told("x", [("x", "bool")]), None)
        self.assertEqual(told("x 1", (("x", "fun"),)), "int")

    def test_sixty_expressions(self):
        def row(many):
            rows = [("int", 1)] * many
            while len(rows) > 1:
                rows = [("prim", "add", tuple(rows[k:k + 2])) if k + 1 < len(rows) else rows[k] for k in range(0, len(rows), 2)]
            return rows[0]

        self.assertEqual(sort_of(("prim", "tell", (row(30),)), []), "unit")
        self.assertEqual(sort_of(("seq", ("unit",), ("prim", "tell", (row(29),))), []), "unit")
        self.assertEqual(sort_of(("seq", ("unit",), row(30)), []), None)
        self.assertEqual(sort_of(("prim", "ref", (("prim", "get", (("prim", "ref", (row(29),)),)),)), []), "ref")
        self.assertEqual(sort_of(("prim", "tell", (("prim", "get", (("prim", "ref", (row(29),)),)),)), []), "unit")
        self.assertEqual(sort_of(row(31), []), None)

    def test_twenty_four_deep(self):
        expr = ("int", 1)
        for _ in range(23):
            expr = ("seq", ("unit",), expr)
        self.assertEqual(sort_of(expr, []), "int")
        self.assertEqual(sort_of(("seq", ("unit",), expr), []), None)
        self.assertEqual(sort_of(("seq", expr, ("unit",)), []), None)

    def test_six_ifs(self):
        one = ("if", ("var", "b"), ("int", 1), ("int", 2))
        row = one
        for _ in range(5):
            row = ("prim", "add", (row, one))
        self.assertEqual(sort_of(row, SORTS), "int")
        self.assertEqual(sort_of(("prim", "add", (row, one)), SORTS), None)
        inner = ("int", 1)
        for _ in range(6):
            inner = ("if", ("var", "b"), inner, ("int", 2))
        self.assertEqual(sort_of(inner, SORTS), "int")
        self.assertEqual(sort_of(("if", ("var", "b"), inner, ("int", 2)), SORTS), None)

    def test_random_parts(self):
        for seed in range(100):
            maker = Straight(seed)
            for want in ("int", "unit", "ref"):
                part = maker.part(want, 4)
                self.assertEqual(keeps(self, sort_of, part, maker.sorts), want)
                self.assertIs(keeps(self, is_straight, part, maker.sorts), True)
                if str(part).count("'var'"):
                    self.assertIs(is_straight(("fn", "q", part), maker.sorts), False)

    def test_any_value(self):
        for value in ODD:
            self.assertIs(is_straight(value, SORTS), value == ("unit",))
        self.assertIs(is_straight(("int", 2 ** 31), SORTS), False)
        self.assertIs(is_straight(["int", 1], SORTS), False)
        self.assertIs(is_straight(parse_expr("x + y"), SORTS), True)

    def test_errors(self):
        sorts = ("sorts", InvalidSorts, NOT_SORTS)
        look_at_errors(self, sort_of, [("expr", ("unit",)), ("sorts", SORTS)],
                       [("expr", InvalidExpr, bad_for(is_expr)), sorts])
        look_at_errors(self, is_straight, [("value", None), ("sorts", SORTS)], [sorts])


if __name__ == "__main__":
    unittest.main()
