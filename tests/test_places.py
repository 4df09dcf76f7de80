"""Places and holders: [201], [202]."""

import random
import unittest

from checking import ODD, bad_for, error_of, keeps, look_at_errors, nested
from making import Maker

from changedsame.errors import InvalidExpr, InvalidPlace, InvalidProgram, TooMany
from changedsame.parser import parse, parse_expr
from changedsame.places import expr_at, holders, is_place, places, put_at
from changedsame.trees import depth_of, is_expr, is_program, parts_of


def parts(expr):
    """What stands in an expression, as [201] tells it."""
    word = expr[0]
    return {
        "int": lambda: (), "bool": lambda: (), "unit": lambda: (), "var": lambda: (), "fn": lambda: expr[2:],
        "con": lambda: () if expr[2] is None else expr[2:], "call": lambda: expr[1:], "let": lambda: expr[2:],
        "rec": lambda: tuple(member[2] for member in expr[1]) + (expr[2],), "if": lambda: expr[1:],
        "match": lambda: (expr[1],) + tuple(rule[1] for rule in expr[2]), "tuple": lambda: expr[1],
        "try": lambda: (expr[1],) + tuple(rule[1] for rule in expr[2]), "seq": lambda: expr[1:],
        "raise": lambda: expr[1:], "prim": lambda: expr[2],
    }[word]()


def naive_places(program):
    found = {}

    def put(place, expr):
        found[place] = expr
        for k, part in enumerate(parts(expr)):
            put(place + (k,), part)

    for m, module in enumerate(program):
        for d, decl in enumerate(module[3]):
            if decl[0] in ("let", "do"):
                put((m, d), decl[-1])
            elif decl[0] == "rec":
                for k, member in enumerate(decl[1]):
                    put((m, d, k), member[2])
    return found


class TestPlaces(unittest.TestCase):
    def test_each_form(self):
        text = ("module M = type t = A of int exception E let a = 1 rec f x = x and g x = (x, 2) do fn x -> x end "
                "module N = do let x = f 1 in x do rec h x = 1 and i x = 2 in 3 do if true then 1 else 2 "
                "do match x with 1 -> 2 | _ -> 3 end do try x with _ -> 4 end do (1; raise E) do A (1 + 2) do ask() do place(1, 2, 3) end")
        program = parse(text)
        self.assertEqual(places(program), [
            (0, 2), (0, 3, 0), (0, 3, 1), (0, 3, 1, 0), (0, 3, 1, 1), (0, 4), (0, 4, 0),
            (1, 0), (1, 0, 0), (1, 0, 0, 0), (1, 0, 0, 1), (1, 0, 1), (1, 1), (1, 1, 0), (1, 1, 1), (1, 1, 2),
            (1, 2), (1, 2, 0), (1, 2, 1), (1, 2, 2), (1, 3), (1, 3, 0), (1, 3, 1), (1, 3, 2), (1, 4), (1, 4, 0), (1, 4, 1),
            (1, 5), (1, 5, 0), (1, 5, 1), (1, 5, 1, 0), (1, 6), (1, 6, 0), (1, 6, 0, 0), (1, 6, 0, 1), (1, 7),
            (1, 8), (1, 8, 0), (1, 8, 1), (1, 8, 2)])
        self.assertEqual(places(parse("module M = type t = A end")), [])

    def test_random_programs(self):
        maker = Maker(21)
        for _ in range(30):
            program = maker.program(4)
            if not is_program(program):
                continue
            found = naive_places(program)
            self.assertEqual(keeps(self, places, program), sorted(found))
            self.assertEqual(list(found), sorted(found))
            for place, expr in found.items():
                self.assertEqual(expr_at(program, place), expr)
                self.assertTrue(is_place(program, place))
                self.assertEqual(holders(program, place), [p for p in sorted(found) if p != place and place[:len(p)] == p])
                self.assertEqual(put_at(program, place, expr), program)
                self.assertEqual(is_place(program, place + (9,)), place + (9,) in found)
            for place in sorted(found)[::7]:
                told = keeps(self, put_at, program, place, ("int", 77))
                self.assertEqual(expr_at(told, place), ("int", 77))
                others = naive_places(told)
                for p, expr in found.items():
                    if p[:len(place)] != place and place[:len(p)] != p:
                        self.assertEqual(others.pop(p), expr)
                self.assertEqual([p for p in others if place[:len(p)] != p], [])

    def test_is_place_of_odd_values(self):
        program = parse("module M = do (1, 2) rec f x = x exception E end")
        self.assertTrue(is_place(program, (0, 0, 1)))
        for value in ODD + [[0, 0], (0,), (1, 0), (0, 1), (0, 2), (0, 3), (0, 0, True), (False, 0), (0, -1), (-1, 0),
                            (0, 0, 2), (0, 1, 1), (0, 1, 0, 0), (0, 0, 0, 0), (0, "0"), ((0,), 0), (0, 0, None)]:
            self.assertIs(is_place(program, value), False, value)

    def test_exactly_600_parts_and_40_deep(self):
        # 20 declarations: 1 + 20 + 20 * 28 = 581 parts, and 19 more.
        many = ("int", 1)
        for _ in range(9):
            many = ("tuple", (("unit",), many, ("unit",)))
        program = (("module", "M", None, (("do", many),) * 20),)
        self.assertEqual(parts_of(program), 581)
        put = program
        told = ("int", 1)
        for _ in range(9):
            told = ("seq", ("unit",), told)
        put = put_at(program, (0, 3) + (1,) * 9, ("raise", told))
        self.assertEqual(parts_of(put), 600)
        error = error_of(put_at, program, (0, 3) + (1,) * 9, ("raise", ("raise", told)))
        self.assertEqual((type(error), error.what, error.limit), (TooMany, "parts", 600))
        deep = parse("module M = do (1, 2) end")
        self.assertEqual(depth_of(put_at(deep, (0, 0, 1), nested("raise", 38))), 40)
        error = error_of(put_at, deep, (0, 0, 1), nested("raise", 39))
        self.assertEqual((type(error), error.what, error.limit), (TooMany, "depth", 40))
        self.assertEqual(depth_of(put_at(deep, (0, 0), nested("raise", 39))), 40)
        both = ("tuple", (nested("raise", 36), many, many))
        error = error_of(put_at, program, (0, 3) + (1,) * 9, both)
        self.assertEqual((type(error), error.what), (TooMany, "parts"))

    def test_patterns_count(self):
        deep = parse("module M = do match 1 with _ -> 2 end end")
        self.assertEqual(holders(deep, (0, 0, 1)), [(0, 0)])
        self.assertEqual(put_at(deep, (0, 0, 0), ("unit",)), parse("module M = do match () with _ -> 2 end end"))

    def test_errors(self):
        program = parse("module M = do (1, 2) end")
        bad_programs = bad_for(is_program)
        bad_places = ODD + [(0,), (0, 1), (0, 0, 2), [0, 0]]
        first = ("program", InvalidProgram, bad_programs)
        second = ("place", InvalidPlace, bad_places)
        look_at_errors(self, places, [("program", program)], [first])
        look_at_errors(self, is_place, [("program", program), ("value", None)], [first])
        for call in (expr_at, holders):
            look_at_errors(self, call, [("program", program), ("place", (0, 0))], [first, second])
        look_at_errors(self, put_at, [("program", program), ("place", (0, 0)), ("expr", ("unit",))],
                       [first, second, ("expr", InvalidExpr, bad_for(is_expr))])


if __name__ == "__main__":
    unittest.main()
