"""Still parts and early children: [244], [245]."""

import unittest

from checking import bad_for, keeps, look_at_errors

from changedsame.errors import InvalidExpr
from changedsame.infer import is_accepted
from changedsame.lets import early_children, is_still
from changedsame.parser import parse, parse_expr
from changedsame.plainruns import run_outer
from changedsame.trees import is_expr

STILL = ["5", "~3", "true", "()", "x", "M.x", "fn x -> 1 / 0", "Nil", "Some 1", "Some (Some x)", "(1, x, fn y -> y)", "(Nil, (1, ()))", "Cons (1, Nil)"]
NOT_STILL = ["1 + 2", "!r", "f 1", "ask()", "tell(1)", "ref(1)", "let x = 1 in x", "rec f x = x in f", "if true then 1 else 2",
             "match 1 with _ -> 2 end", "try 1 with _ -> 2 end", "1; 2", "raise Bounds", "Some (f 1)", "(1, f 1)", "(1, (2, !r))", "Cons (1, f 1)",
             "Some (1; 2)", "(fn x -> x) 1", "not(true)", "same(r, r)"]


class TestStill(unittest.TestCase):
    def test_each_form(self):
        for text in STILL:
            self.assertIs(keeps(self, is_still, parse_expr(text)), True, text)
        for text in NOT_STILL:
            self.assertIs(keeps(self, is_still, parse_expr(text)), False, text)

    def test_a_still_part_does_nothing(self):
        for text in STILL:
            if "M.x" not in text:
                one = parse(f"module P = let x = 1 let a = fn u -> tell(1); (tell(2); {text}) do a 1 end")
                other = parse("module P = let x = 1 let a = fn u -> tell(1); (tell(2); ()) do a 1 end")
                self.assertTrue(is_accepted(one))
                self.assertEqual(run_outer(one, [], 5), run_outer(other, [], 5))


class TestEarly(unittest.TestCase):
    def test_each_form(self):
        for text, told in [
                ("5", []), ("true", []), ("()", []), ("x", []), ("Nil", []), ("ask()", []), ("Some x", [0]), ("fn x -> x", []), ("f x", [0, 1]),
                ("let x = 1 in x", [0]), ("rec f x = x and g x = x in f", []), ("if a then b else c", [0]),
                ("match a with _ -> b | _ -> c end", [0]), ("try a with _ -> b end", []), ("(a, b)", [0, 1]), ("(a, b, c, d)", [0, 1, 2, 3]),
                ("a; b; c", [0, 1]), ("raise a", [0]), ("a + b", [0, 1]), ("!a", [0]), ("place(a, b, c)", [0, 1, 2])]:
            self.assertEqual(keeps(self, early_children, parse_expr(text)), told, text)

    def test_errors(self):
        for call in (is_still, early_children):
            look_at_errors(self, call, [("expr", ("unit",))], [("expr", InvalidExpr, bad_for(is_expr))])


if __name__ == "__main__":
    unittest.main()
