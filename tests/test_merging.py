"""Changes that commute, and merges of two rows: [284], [285]."""

import random
import unittest

from changing import some_changes
from checking import ODD, bad_for, error_of, keeps, look_at_errors
from running import parting_run
from typed import Typed

from changedsame.checker import led_by
from changedsame.deciding import is_change, taken
from changedsame.errors import InvalidChange, InvalidChanges, InvalidProgram, NotAccepted
from changedsame.infer import is_accepted
from changedsame.leading import led
from changedsame.merging import commute, merged
from changedsame.parser import parse, parse_expr
from changedsame.printer import program_text
from changedsame.trees import is_program
from changedsame.works import replayed

TEXT = "module M = let k = 1 let g = fn y -> y do (let a = 1 in (a, a), let b = (2, 3) in (b, k)) do let d = 5 in d end"
LEFT, RIGHT = (0, 2, 0), (0, 2, 1)


def commute_plainly(program, change, other):
    """The words of [284], one by one."""
    near, far = taken(program, change), taken(program, other)
    if near is None or far is None:
        return False
    one, two = led(program, change, other), led(program, other, change)
    if one is None or two is None:
        return False
    ends = (taken(far, one), taken(near, two))
    return None not in ends and ends[0] == ends[1]


class TestCommute(unittest.TestCase):
    def test_pairs(self):
        program = parse(TEXT)
        for change, other, is_so in [
                (("inline", LEFT), ("inline", RIGHT), True), (("inline", LEFT), ("inline", (0, 3)), True), (("inline", LEFT), ("inline", LEFT), False), (("rename value", "M.k", "z"), ("rename value", "M.g", "y"), True),
                (("rename value", "M.k", "z"), ("rename value", "M.g", "z"), False), (("rename value", "M.k", "y"), ("rename value", "M.k", "z"), False), (("rename value", "M.k", "y"), ("rename value", "M.k", "y"), True), (("rename module", "M", "N"), ("rename value", "M.k", "y"), True),
                (("move", "M.k", "M", 1), ("inline", LEFT), True), (("move", "M.k", "M", 1), ("move", "M.g", "M", 0), True), (("move", "M.k", "M", 1), ("move", "M.g", "M", 1), False), (("move", "M.k", "M", 1), ("rename value", "M.k", "z"), True), (("fold", (0, 3), "f"), ("inline", (0, 3)), False),
                (("rename local", (0, 3), 0, "z"), ("inline", (0, 3)), False), (("rename value", "M.k", "b"), ("inline", LEFT), False), (("inline", (0, 9)), ("inline", LEFT), False), (("inline", LEFT), ("inline", (0, 9)), False),
                (("fold", (0, 3), "f"), ("rename value", "M.k", "f"), True), (("replace", (0, 2, 1, 1, 1), parse_expr("k + 0")), ("rename value", "M.k", "z"), True), (("replace", (0, 2, 1, 1, 1), parse_expr("k + 0")), ("inline", RIGHT), False),
                (("replace", (0, 2, 1, 1, 1), parse_expr("k + 0")), ("inline", LEFT), True), (("extract", RIGHT, RIGHT + (0,), "z"), ("rename value", "M.k", "z"), False)]:
            self.assertIs(keeps(self, commute, program, change, other), is_so, (change, other))
            self.assertIs(commute(program, other, change), is_so)

    def test_random(self):
        seen = {}
        for seed in range(14):
            rand = random.Random(seed)
            program = Typed(seed).program(3, 2, 2)
            if not is_accepted(program):
                continue
            changes = some_changes(program, rand, 5)
            for change in changes:
                for other in changes:
                    is_so = commute(program, change, other)
                    self.assertIs(is_so, commute_plainly(program, change, other))
                    self.assertIs(is_so, commute(program, other, change))
                    seen[is_so] = seen.get(is_so, 0) + 1
        self.assertGreater(min(seen.values()), 20)

    def test_errors(self):
        program, good = parse(TEXT), ("inline", LEFT)
        look_at_errors(self, commute, [("program", program), ("change", good), ("other", good)], [
            ("program", InvalidProgram, bad_for(is_program)), ("change", InvalidChange, bad_for(is_change)), ("other", InvalidChange, bad_for(is_change))])
        bad = parse("module M = do 1 + true end")
        self.assertIs(type(error_of(commute, bad, good, good)), NotAccepted)
        self.assertIs(type(error_of(commute, bad, good, 1)), InvalidChange)


class TestMerged(unittest.TestCase):
    def look(self, changes, others, wanted):
        """wanted: a text and a row, or a tuple of two positions."""
        program = parse(TEXT)
        told = keeps(self, merged, program, changes, others)
        if isinstance(wanted[0], int):
            self.assertEqual(told, ("apart",) + wanted)
            return
        text, row = wanted
        self.assertEqual((told[0], len(told)), ("merged", 3))
        self.assertEqual(program_text(told[1]), program_text(parse(text)))
        self.assertEqual(told[2], tuple(row))
        self.assertEqual(replayed(program, told[2]).newest(), told[1])
        self.assertEqual(merged(program, others, changes)[1], told[1])

    def test_some(self):
        one, two = ("inline", LEFT), ("inline", RIGHT)
        self.look([], [], (TEXT, []))
        self.look([one], [], (TEXT.replace("(let a = 1 in (a, a)", "((1, 1)"), [one]))
        self.look([], [one], (TEXT.replace("(let a = 1 in (a, a)", "((1, 1)"), [one]))
        both = TEXT.replace("(let a = 1 in (a, a)", "((1, 1)").replace("let b = (2, 3) in (b, k)", "((2, 3), k)")
        self.look([one], [two], (both, [one, two]))
        self.look((one,), (two,), (both, [one, two]))
        self.look([("move", "M.k", "M", 1), ("rename value", "M.k", "z")], [one, two], (
            "module M = let g = fn y -> y let z = 1 do ((1, 1), ((2, 3), z)) do let d = 5 in d end", [("move", "M.k", "M", 1), ("rename value", "M.k", "z"), one, two]))
        self.look([one, two], [("move", "M.k", "M", 2), ("rename value", "M.k", "z")], (0, 0)) if False else None
        self.look([("move", "M.g", "M", 0)], [one, ("rename value", "M.g", "h"), ("inline", (0, 3))], (
            "module M = let h = fn y -> y let k = 1 do ((1, 1), let b = (2, 3) in (b, k)) do 5 end", [("move", "M.g", "M", 0), one, ("rename value", "M.g", "h"), ("inline", (0, 3))]))
        self.look([("rename module", "M", "N"), ("rename value", "N.k", "z")], [("rename value", "M.g", "h"), ("move", "M.h", "M", 0)], (
            "module N = let h = fn y -> y let z = 1 do (let a = 1 in (a, a), let b = (2, 3) in (b, z)) do let d = 5 in d end",
            [("rename module", "M", "N"), ("rename value", "N.k", "z"), ("rename value", "N.g", "h"), ("move", "N.h", "N", 0)]))

    def test_apart(self):
        one, two, three = ("inline", LEFT), ("inline", RIGHT), ("inline", (0, 3))
        for changes, others, wanted in [
                ([one], [one], (0, 0)), ([one, two], [two], (1, 0)), ([two, one], [two], (0, 0)), ([one], [two, one], (0, 1)), ([one, two], [three, two, one], (1, 1)), ([one, two], [three, one, two], (0, 1)),
                ([("rename value", "M.k", "y"), one], [("rename value", "M.k", "z")], (0, 0)), ([one, ("rename value", "M.k", "y")], [three, ("rename value", "M.k", "z")], (1, 1))]:
            self.look(changes, others, wanted)

    def test_twelve(self):
        names = ["y", "z", "w", "k"]
        row = [("rename value", f"M.{names[(k + 3) % 4]}", names[k % 4]) for k in range(12)]
        program = parse(TEXT)
        self.assertEqual(merged(program, row, []), ("merged", program, tuple(row)))
        self.assertEqual(merged(program, [], row), ("merged", program, tuple(row)))
        long = row + [("inline", LEFT)]
        for pair in ((long, []), ([], long)):
            error = error_of(merged, program, *pair)
            self.assertEqual((type(error), error.value), (InvalidChanges, long))

    def test_random(self):
        seen = {"merged": 0, "apart": 0}
        for seed in range(40):
            rand = random.Random(seed)
            program = Typed(seed).program(2, 2, 2)
            if not is_accepted(program):
                continue
            rows = []
            for _ in range(2):
                now, row = program, []
                for change in some_changes(now, rand, 5):
                    behind = taken(now, change)
                    if behind is not None and behind != now and len(row) < 2:
                        row.append(change)
                        now = behind
                rows.append((row, now))
            told = merged(program, rows[0][0], rows[1][0])
            seen[told[0]] += 1
            if told[0] == "merged":
                work = replayed(program, told[2])
                self.assertEqual(work.newest(), told[1])
                self.assertEqual(list(told[2][:len(rows[0][0])]), rows[0][0])
                self.assertEqual(led_by(program, work.paper()), (told[1], None))
                self.assertEqual(merged(program, rows[1][0], rows[0][0])[1], told[1])
                if not [change for change in told[2] if change[0] in ("rename module", "rename constructor")]:
                    self.assertIsNone(parting_run(program, told[1], rand, tries=1))
            else:
                self.assertEqual(merged(program, rows[1][0], rows[0][0])[0], "apart")
                if told[2] == 0 and told[1] == 0:
                    self.assertFalse(commute(program, rows[0][0][0], rows[1][0][0]))
        self.assertGreater(min(seen.values()), 3, seen)

    def test_errors(self):
        program, good = parse(TEXT), [("inline", LEFT)]
        bad = [value for value in ODD if value not in ([], ())] + [[1], good + good, [("inline", (0, 9))], good[0], {0: good[0]}, [list(good[0])]]
        look_at_errors(self, merged, [("program", program), ("changes", good), ("others", [])], [
            ("program", InvalidProgram, bad_for(is_program)), ("changes", InvalidChanges, bad), ("others", InvalidChanges, bad)])
        wrong = parse("module M = do 1 + true end")
        self.assertIs(type(error_of(merged, wrong, good, good)), NotAccepted)
        self.assertIs(type(error_of(merged, wrong, good, [1])), InvalidChanges)


if __name__ == "__main__":
    unittest.main()
