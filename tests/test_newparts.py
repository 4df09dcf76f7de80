"""Changes of parts, new parts, and clashes: [241] to [243]."""

import random
import unittest

from checking import ODD, keeps
from naivenames import naive_binder
from typed import Typed

from changedsame.bindings import uses
from changedsame.infer import is_accepted
from changedsame.names import free_names
from changedsame.newparts import is_part_change, new_part_of
from changedsame.parser import parse, parse_expr
from changedsame.places import expr_at, places, put_at
from changedsame.printer import expr_text
from changedsame.trees import is_program
from changedsame.wholes import resolved


class TestChanges(unittest.TestCase):
    def test_what_fits(self):
        program = parse("module M = let r = ref(1) do let x = !r in let y = 2 in x + y do (tell(1); tell(2); tell(3)) "
                        "rec f x = (x, x + 1) do let x = 1 in x do (tell(1); 2) end")
        for change, fits in [
                (("swap", (0, 1)), True), (("swap", (0, 2)), True), (("swap", (0, 4)), False), (("swap", (0, 5)), False), (("swap", (0, 1, 1)), False),
                (("swap", (0, 0)), False), (("inline", (0, 1)), True), (("inline", (0, 2)), False), (("drop", (0, 1, 1)), True), (("drop", (0, 2)), True),
                (("drop", (0, 3, 0)), False), (("replace", (0, 0, 0), parse_expr("r")), False), (("replace", (0, 0, 0), parse_expr("1 + true")), True),
                (("replace", (0, 3, 0, 0), parse_expr("x")), True), (("replace", (0, 3, 0, 0), parse_expr("y")), False),
                (("replace", (0, 3, 0, 0), parse_expr("f")), True), (("replace", (0, 3, 0, 0), parse_expr("Nil 1")), False),
                (("replace", (0, 3, 0, 0), parse_expr("M.r")), False), (("replace", (0, 3, 0, 0), ("int", True)), False),
                (("extract", (0, 3, 0), (0, 3, 0, 1), "a"), True), (("extract", (0, 3, 0), (0, 3, 0), "a"), False),
                (("extract", (0, 3, 0), (0, 3), "a"), False), (("extract", (0, 3, 0), (0, 2, 0), "a"), False), (("extract", (0, 3, 0, 1), (0, 3, 0), "a"), False),
                (("share", (0, 3, 0), (0, 3, 0, 0), "x"), True), (("share", (0, 3, 0), (0, 3, 0, 0), "M.x"), False),
                (("share", (0, 3, 0), (0, 3, 0, 0), "A"), False), (("share", (0, 3, 0), (0, 3, 0, 7), "a"), False), (("swap", (0, 1), 1), False),
                (("extract", (0, 3, 0), (0, 1, 0, 0), "a"), False), (("share", (0, 3, 0), (0, 3, 1, 0), "a"), False),
                (["swap", (0, 1)], False), (("swap", [0, 1]), False), (("unfold", (0, 1)), False), (("drop", (0, 9)), False), (("swap",), False)]:
            self.assertIs(keeps(self, is_part_change, program, change), fits, change)
        for value in ODD:
            self.assertIs(is_part_change(program, value), False)
        for text in ("fn x -> fn y -> 1", "if true then 1 else if true then 2 else 3", "raise (raise Bounds)", "fn x -> x (x x)", "Some (Some 1)",
                     "(1, (2, 3))", "let x = 1 in (1; 2)", "(1; let x = 1 in 2)", "let x = (let y = 1 in y) in x", "((1; 2); 3)"):
            self.assertIs(is_part_change(parse(f"module M = do {text} end"), ("swap", (0, 0))), False, text)

    def test_too_large_ones_fit(self):
        many = ("int", 1)
        for _ in range(12):
            many = ("tuple", (many, ("unit",), ("unit",), ("unit",)))
        program = (("module", "M", None, (("do", many),) * 12),)
        self.assertIs(is_program(program), False)
        program = (("module", "M", None, (("do", many),) * 11),)
        self.assertIs(is_part_change(program, ("replace", (0, 0, 1), many)), True)
        self.assertIs(is_part_change(program, ("replace", (0, 0, 1), ("seq", ("var", "x"), many))), False)


class TestNewParts(unittest.TestCase):
    def told(self, text, change):
        """The text of the new part of a change in which places are told from the part on; or the place of a clash."""
        program = parse(f"module M = do fn r -> fn s -> fn f -> {text} end")
        begin = (0, 0, 0, 0, 0)
        whole = (change[0], begin) + change[1:]
        if change[0] in ("extract", "share"):
            whole = (change[0], begin, begin + change[1], change[2])
        self.assertTrue(is_part_change(program, whole), (text, whole))
        word, found = keeps(self, new_part_of, program, whole)
        if word == "clash":
            self.assertEqual(found[:5], begin)
            return found[5:]
        self.assertTrue(is_program(put_at(program, begin, found)))
        return expr_text(found)

    def test_replace(self):
        self.assertEqual(self.told("r + 1", ("replace", parse_expr("fn q -> s"))), "fn q -> s")

    def test_swap(self):
        for text, wanted in [
                ("let x = !r in let y = !s in x + y", "let y = !s in let x = !r in x + y"), ("let x = 1 in let y = 2 in 3", "let y = 2 in let x = 1 in 3"),
                ("tell(1); tell(2); tell(3)", "tell(2); tell(1); tell(3)"), ("1; (2; (3; 4))", "2; 1; 3; 4"),
                ("let x = 1 in let y = x in y", (1, 0)), ("let x = 1 in let y = (fn x -> x) 1 in y", "let y = (fn x -> x) 1 in let x = 1 in y"),
                ("let y = 1 in let x = y in let y = x + 2 in x", (1, 0)), ("let x = s in let s = r in x", (0,)),
                ("let x = (fn s -> s) in let s = r in x", "let s = r in let x = fn s -> s in x"), ("let x = (s, s) in let s = r in x", (0, 0)),
                ("let x = 1 in let x = 2 in x", (1, 1)), ("let x = 1 in let x = 2 in r + (fn x -> x) x", (1, 1, 1, 1)),
                ("let x = 1 in let x = 2 in r", "let x = 2 in let x = 1 in r"), ("let x = s in let s = x in s + x", (0,))]:
            self.assertEqual(self.told(text, ("swap",)), wanted, text)

    def test_inline(self):
        for text, wanted in [
                ("let x = !r in x + x", "!r + !r"), ("let x = r in s", "s"), ("let x = r + 1 in fn y -> x", "fn y -> r + 1"),
                ("let x = r in fn r -> x", (1, 0)), ("let x = r in (x, fn r -> r, fn s -> x)", "(r, fn r -> r, fn s -> r)"),
                ("let x = r in (x, let r = x in x, x)", (1, 1, 1)), ("let x = fn r -> r in fn r -> x", "fn r -> fn r -> r"),
                ("let r = r + 1 in fn s -> r", "fn s -> r + 1"), ("let r = r + s in fn s -> r", (1, 0)), ("let x = 5 in let x = x in x", "let x = 5 in x"),
                ("let x = r in match s with (r, Some q) -> x | _ -> x end", (1, 1)), ("let x = r in rec r q = x in x", (1, 0)),
                ("let x = r in rec g r = x and h q = x in x", (1, 0)), ("let x = r in rec g q = x in x", "rec g q = r in r"),
                ("let x = Some r in match x with None -> 1 | Some v -> v end", "match Some r with None -> 1 | Some v -> v end")]:
            self.assertEqual(self.told(text, ("inline",)), wanted, text)

    def test_drop(self):
        for text, wanted in [
                ("let x = !r in s", "s"), ("tell(1); s", "s"), ("1; 2; 3", "2; 3"), ("let x = 1 in x", (1,)), ("let x = 1 in r + x", (1, 1)),
                ("let x = 1 in fn x -> x", "fn x -> x"), ("let x = 1 in (fn y -> x; x)", (1, 0, 0)), ("let r = r in s", "s"), ("let x = r in s", "s")]:
            self.assertEqual(self.told(text, ("drop",)), wanted, text)

    def test_extract(self):
        for text, inner, name, wanted in [
                ("!r + !s", (0,), "a", "let a = !r in a + !s"), ("!r + !r", (1,), "a", "let a = !r in !r + a"), ("f (f r)", (1,), "a", "let a = f r in f a"),
                ("fn y -> r + y", (0, 0), "a", "let a = r in fn y -> a + y"), ("fn y -> r + y", (0,), "a", (0, 1)), ("fn y -> r + y", (0, 1), "a", (0, 1)),
                ("let y = 1 in y + 2", (1,), "a", (1, 0)), ("let y = r in y + 2", (0,), "a", "let a = r in let y = a in y + 2"),
                ("r + s", (0,), "s", (1,)), ("r + s", (0,), "r", (0,)), ("(s, r + 1)", (1,), "r", (1, 0)), ("fn a -> r + a", (0, 0), "a", (0, 0)),
                ("(fn a -> a, r)", (1,), "a", "let a = r in (fn a -> a, a)"), ("fn a -> (a, fn b -> s)", (0, 1, 0), "b", (0, 1, 0)),
                ("match f r with Some (y, z) -> (z, s) | w -> (w, w) end", (0,), "w", "let w = f r in match w with Some (y, z) -> (z, s) | w -> (w, w) end"),
                ("match f r with Some (y, z) -> (z, s) | w -> (w, w) end", (1, 0), "a", (1, 0)), ("rec g y = f y in g r", (0, 0), "a", "let a = f in rec g y = a y in g r"),
                ("rec g y = g y in g r", (0, 0), "a", (0, 0)), ("fn y -> (fn r -> y) r", (0, 0), "a", (0, 0, 0))]:
            self.assertEqual(self.told(text, ("extract", inner, name)), wanted, (text, inner, name))

    def test_share(self):
        for text, inner, name, wanted in [
                ("!r + !r", (1,), "a", "let a = !r in a + a"), ("(!r, !s, fn q -> !r, fn r -> !r)", (0,), "a", "let a = !r in (a, !s, fn q -> a, fn r -> !r)"),
                ("(!r, !s, fn r -> !r)", (2, 0), "a", (2, 0, 0)), ("(r, let r = r in r, r)", (0,), "a", "let a = r in (a, let r = a in r, a)"),
                ("(r + 1, fn a -> r + 1)", (0,), "a", (1, 0)), ("(r + 1, fn a -> s, r + 1)", (2,), "a", "let a = r + 1 in (a, fn a -> s, a)"),
                ("f (f r)", (1,), "a", "let a = f r in f a"), ("f r (f r)", (1,), "a", "let a = f r in a a"), ("(fn x -> x, fn x -> x)", (0,), "a", "let a = fn x -> x in (a, a)"),
                ("(fn x -> x, fn y -> y)", (0,), "a", "let a = fn x -> x in (a, fn y -> y)"), ("(5, 5, true, 5)", (1,), "a", "let a = 5 in (a, a, true, a)"),
                ("(fn y -> y + s, s)", (1,), "y", (0, 0, 1)), ("(s, fn y -> y)", (0,), "y", "let y = s in (y, fn y -> y)")]:
            self.assertEqual(self.told(text, ("share", inner, name)), wanted, (text, inner, name))

    def test_values_and_long_names(self):
        program = parse("module A = let v = 1 end module B = let v = 2 do (v, A.v, fn v -> (v, A.v, v)) do (v, fn w -> v) do let w = v in fn v -> w "
                        "do let w = A.v in fn v -> w end")
        told = lambda *change: new_part_of(program, change)
        self.assertEqual(told("share", (1, 1), (1, 1, 1), "a"), ("part", parse_expr("let a = A.v in (v, a, fn v -> (v, a, v))")))
        self.assertEqual(told("share", (1, 1), (1, 1, 0), "a"), ("part", parse_expr("let a = v in (a, A.v, fn v -> (v, A.v, v))")))
        self.assertEqual(told("share", (1, 1), (1, 1, 1), "v"), ("clash", (1, 1, 0)))
        others = parse("module M = let g = 1 do (g, Some g) do (g, fn g -> g) end")
        self.assertEqual(new_part_of(others, ("share", (0, 2), (0, 2, 0), "k")), ("part", parse_expr("let k = g in (k, fn g -> g)")))
        self.assertEqual(told("share", (1, 2), (1, 2, 0), "v"), ("clash", (1, 2, 0)))
        self.assertEqual(told("inline", (1, 3)), ("clash", (1, 3, 1, 0)))
        self.assertEqual(told("inline", (1, 4)), ("part", parse_expr("fn v -> A.v")))

    def test_random_changes_keep_binders(self):
        rand = random.Random(6)
        counts = {"part": 0, "clash": 0}
        for seed in range(40):
            program = Typed(300 + seed).program(4)
            if not is_program(program):
                continue
            for change in self.changes(program, rand):
                if not is_part_change(program, change):
                    continue
                word, found = new_part_of(program, change)
                counts[word] += 1
                if word == "part":
                    told = put_at(program, change[1], found)
                    resolved(told)
                    self.assertTrue(change[0] in ("extract", "share") or is_accepted(told))
                    self.look_at_free_names(program, told, change, found)
                else:
                    self.assertIn(found, places(program))
                    self.assertEqual(expr_at(program, found)[0] == "var" or change[0] in ("extract", "share"), True)
        self.assertGreater(min(counts.values()), 20)

    def look_at_free_names(self, program, told, change, found):
        """Names that are free in the new part are those of the old one, as far as they are left."""
        old = expr_at(program, change[1])
        self.assertLessEqual(set(free_names(found)), set(free_names(old)))
        if change[0] in ("swap", "extract", "share"):
            self.assertEqual(set(free_names(found)), set(free_names(old)))
        if change[0] in ("extract", "share"):
            binder = ("local", change[1], 0)
            self.assertTrue(len(uses(told, binder)) == 1 or change[0] == "share")
            inner = expr_at(program, change[2])
            for place in uses(told, binder):
                back = change[1] + place[len(change[1]) + 1:]
                self.assertEqual(expr_at(program, back), inner)
                if inner[0] == "var":
                    self.assertEqual(naive_binder(program, back, inner[1]), naive_binder(program, change[2], inner[1]))

    def changes(self, program, rand):
        everywhere = places(program)
        for place in everywhere:
            expr = expr_at(program, place)
            if expr[0] in ("let", "seq"):
                yield ("swap", place)
                yield ("drop", place)
                yield ("inline", place)
            inner = [other for other in everywhere if len(other) > len(place) and other[:len(place)] == place]
            if inner and rand.random() < 0.3:
                yield (rand.choice(["extract", "share"]), place, rand.choice(inner), rand.choice(["a", "b", "q"]))


if __name__ == "__main__":
    unittest.main()
