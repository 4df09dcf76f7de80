"""The new part of a change, with the errors of its parameters: [241] to [243]."""

import unittest

from checking import ODD, bad_for, error_of, keeps, look_at_errors

from changedsame.errors import InvalidChange, InvalidProgram, NotAccepted, TooMany
from changedsame.parser import parse, parse_expr
from changedsame.replaces import new_part
from changedsame.trees import is_program, parts_of

TEXT = "module M = let r = ref(1) do let x = !r in let y = 2 in x + y rec f x = (x, x + 1) do (tell(1); tell(2); 3) end"


class TestNewPart(unittest.TestCase):
    def test_each_kind(self):
        program = parse(TEXT)
        for change, told in [
                (("swap", (0, 1)), ("part", parse_expr("let y = 2 in let x = !r in x + y"))),
                (("swap", (0, 3)), ("part", parse_expr("tell(2); tell(1); 3"))),
                (("inline", (0, 1)), ("part", parse_expr("let y = 2 in !r + y"))), (("drop", (0, 3)), ("part", parse_expr("tell(2); 3"))),
                (("drop", (0, 1)), ("clash", (0, 1, 1, 1, 0))), (("replace", (0, 2, 0), ("var", "r")), ("part", ("var", "r"))),
                (("extract", (0, 2, 0), (0, 2, 0, 1, 0), "q"), ("part", parse_expr("let q = x in (x, q + 1)"))),
                (("share", (0, 2, 0), (0, 2, 0, 1, 0), "q"), ("part", parse_expr("let q = x in (q, q + 1)"))),
                (("share", (0, 2, 0), (0, 2, 0, 1, 0), "x"), ("clash", (0, 2, 0, 0)))]:
            self.assertEqual(keeps(self, new_part, program, change), told)

    def test_errors(self):
        program = parse(TEXT)
        bad = ODD + [("swap", (0, 3, 1)), ("inline", (0, 3)), ("drop", (0, 0)), ("extract", (0, 1), (0, 1), "a"), ("share", (0, 2, 0), (0, 2, 0, 1), "A"),
                     ("replace", (0, 2, 0), ("var", "z")), ("replace", (0, 2, 0), ("con", "Nil", ("unit",))), ["swap", (0, 1)]]
        look_at_errors(self, new_part, [("program", program), ("change", ("swap", (0, 1)))],
                       [("program", InvalidProgram, bad_for(is_program)), ("change", InvalidChange, bad)])

    def test_not_accepted(self):
        for text in ("do 1 + true do 1; 2; 3", "do z do 1; 2; 3"):
            program = parse(f"module M = {text} end")
            self.assertIs(type(error_of(new_part, program, ("swap", (0, 1)))), NotAccepted)
            self.assertIs(type(error_of(new_part, program, ("swap", (0, 0)))), InvalidChange)
            self.assertIs(type(error_of(new_part, program, ("replace", (0, 1), ("unit",)))), NotAccepted)
        unbound = parse("module M = do z do fn x -> (x, z) end")
        for place in ((0, 0), (0, 1), (0, 1, 0), (0, 1, 0, 0), (0, 1, 0, 1)):
            self.assertIs(type(error_of(new_part, unbound, ("replace", place, ("int", 1)))), NotAccepted)
            self.assertIs(type(error_of(new_part, unbound, ("replace", place, ("var", "y")))), InvalidChange)
            wanted = NotAccepted if len(place) > 2 else InvalidChange
            self.assertIs(type(error_of(new_part, unbound, ("replace", place, ("var", "x")))), wanted)
        deep = parse("module M = do z do fn x -> fn y -> match x with v -> (let w = y in (w, z), z) end end")
        for name, place in [("x", (0, 1, 0, 0)), ("y", (0, 1, 0, 0)), ("v", (0, 1, 0, 0, 1, 1)), ("y", (0, 1, 0, 0, 1, 0, 1)), ("w", (0, 1, 0, 0, 1, 0, 1, 1))]:
            self.assertIs(type(error_of(new_part, deep, ("replace", place, ("var", name)))), NotAccepted, (name, place))
            self.assertIs(type(error_of(new_part, deep, ("replace", place[:-1], ("var", "w")))), {
                (0, 1, 0, 0, 1, 0, 1): NotAccepted}.get(place[:-1], InvalidChange))
        twice = parse("module M = let a = 1 let a = 2 do a end")
        self.assertIs(type(error_of(new_part, twice, ("replace", (0, 2), ("var", "a")))), NotAccepted)
        hidden = parse("module M show b = let a = 1 do a end")
        self.assertIs(type(error_of(new_part, hidden, ("replace", (0, 1), ("var", "a")))), NotAccepted)
        self.assertIs(type(error_of(new_part, hidden, ("replace", (0, 1), ("var", "c")))), InvalidChange)
        typed = parse("module M = do 1 end")
        self.assertEqual(new_part(typed, ("replace", (0, 0), parse_expr("1 + true"))), ("part", parse_expr("1 + true")))

    def test_too_large(self):
        many = ("int", 1)
        for _ in range(13):
            many = ("tuple", (("unit",), many, ("unit",)))
        uses = ("tuple", (("var", "x"),) * 4)
        program = (("module", "M", None, (("do", ("let", "x", many, ("tuple", (uses,) * 4))),)),)
        self.assertEqual(parts_of(program), 2 + 1 + 40 + 21)
        error = error_of(new_part, program, ("inline", (0, 0)))
        self.assertEqual((type(error), error.what, error.limit), (TooMany, "parts", 600))
        deep = ("var", "x")
        for _ in range(30):
            deep = ("con", "Some", deep)
        deep = (("module", "M", None, (("do", ("let", "x", many, deep)),)),)
        error = error_of(new_part, deep, ("inline", (0, 0)))
        self.assertEqual((type(error), error.what, error.limit), (TooMany, "depth", 40))


if __name__ == "__main__":
    unittest.main()
