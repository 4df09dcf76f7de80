"""Commands by their words alone, and changes as they are written: [295]."""

import random
import unittest

from changing import some_changes
from checking import ODD, bad_for, keeps, look_at_errors
from test_deciding import GOOD
from typed import Typed

from changedsame.commands import change_text, is_command, is_deed
from changedsame.deciding import is_change
from changedsame.errors import InvalidChange
from changedsame.infer import is_accepted
from changedsame.parser import parse_expr
from changedsame.wordings import change_worded

WRITTEN = [
    "rename-local 0.1 0 x", "rename-value M.x y", "rename-type M.t u", "rename-con M.C D", "rename-module M N", "move M.x N 3", "replace 0.0 x + 1", "replace 0.0 (", "replace 0.0  x", "swap 0.0", "inline 0.0.12", "extract 0.1 0.1.0 k",
    "share 0.1 0.1.0 k", "drop 0", "unfold 9.9", "fold 0.0 f", "flip M.x", "swap-rules 0.1 0", "drop-rule 0.1 10", "split-rule 0.1 0 - C", "split-rule 0.1 0 0/M.C/1 M.C", "split-rule 0.1 0 C Q", "merge-rules 0 99", "turn-shape M.C 1,0", "turn-shape M.C 3,2,1,0",
    "turn-shape M.C 9,9",
]

NONE = [
    "", "rename-local", "rename-local 0.1 0", "rename-local 0.1 0 x y", "rename-local 0.1 00 x", "rename-local 0.1 0 X", "rename-local 0.1 0 let", "rename-local 0.1  0 x", "rename-local 0.1 0 x ", " rename-local 0.1 0 x", "rename-local . 0 x", "rename-local 0. 0 x",
    "rename-local 0..1 0 x", "rename-local 0.100 0 x", "rename-local 0.01 0 x", "rename-local - 0 x", "rename-local 0.1 100 x", "rename-local 0.1 -1 x", "rename-local 0,1 0 x", "rename value M.x y", "rename-value x M.y", "rename-value x y", "rename-value M.x y.z",
    "rename-value M.X y", "rename-value m.x y", "rename-type M.T u", "rename-con C D", "rename-con M.C d", "rename-con M.c D", "rename-module M n", "rename-module M.N N", "move x N 3", "move M.x n 3", "move M.x N", "replace 0.0", "replace 0.0 ", "replace x", "swap", "swap ",
    "swap 0.01", "swap 0.0 1", "swap x", "Swap 0.0", "swap-rules 0.1", "swap rules 0.1 0", "split-rule 0.1 0 C", "split-rule 0.1 0 / C", "split-rule 0.1 0 0/ C", "split-rule 0.1 0 0.1 C", "split-rule 0.1 0 c C", "split-rule 0.1 0 - c", "split-rule 0.1 0 -/0 C",
    "split-rule 0.1 0  C", "turn-shape C 1,0", "turn-shape M.C 0", "turn-shape M.C 0,1,2,3,4", "turn-shape M.C 0,", "turn-shape M.C 0.1", "turn-shape M.C 1,00", "turn-shape M.c 1,0", "extract 0.1 k", "share 0.1 0.1.0 K", "drop 0.0 0", "flip x", "flip M.C", "fold 0.0", "fold 0.0 F",
    "fold 0.0 M.f", "rename-value M.abcdefghijklmnopqrstu y", "x",
]

PLAIN = ["undo", "redo", "names", "text w", "changes w", "at w 0", "at w1 0.12.3", "back w", "on abcdefgh", "copy a b", "merge a b c", "merge a a a", "drop-work w", "begin w x", "begin w  ", "begin w module M = end\n# x", "begin a1 \n"]

BAD = [
    "undo ", " undo", "undo w", "redo 1", "names ", "names w", "text", "text ", "text w ", "text  w", "text w w", "text W", "text 1w", "text abcdefghi", "text w_", "text w-1", "changes", "at w", "at w ", "at w -", "at w 0.", "at w 100", "at w 0 0", "back", "back w 1",
    "on", "copy a", "copy a b c", "merge a b", "merge a b c d", "drop-work", "drop w", "begin", "begin w", "begin w ", "begin W x", "begin  w x", "Begin w x", "do w", "do w ", "decide w", "decide", "do", "do swap 0.0", "do  w swap 0.0", "nothing", "text\nw", "begin\nw x",
    "at w 0\n", "text w\n",
]


class TestIsCommand(unittest.TestCase):
    def test_changes(self):
        for text in WRITTEN:
            for command in (f"do w {text}", f"decide w9 {text}"):
                self.assertIs(keeps(self, is_command, command), True, command)
                self.assertIs(keeps(self, is_deed, command), command[:2] == "do")
            self.assertIs(is_command(text), False)
        for text in NONE:
            for command in (f"do w {text}", f"decide w {text}"):
                self.assertIs(is_command(command), False, command)
                self.assertIs(is_deed(command), False, command)

    def test_others(self):
        for command in PLAIN:
            self.assertIs(keeps(self, is_command, command), True, command)
            self.assertIs(is_deed(command), command.split(" ")[0] in ("begin", "do", "back", "on", "merge", "copy", "drop-work"), command)
        for command in BAD + [value for value in ODD if not isinstance(value, str)] + [["undo"], ("undo",), b"undo"]:
            self.assertIs(is_command(command), False, command)
            self.assertIs(is_deed(command), False, command)


class TestChangeText(unittest.TestCase):
    def test_each(self):
        for change, text in [
                (("rename local", (0, 1), 0, "x"), "rename-local 0.1 0 x"), (("rename value", "M.x", "y"), "rename-value M.x y"), (("rename type", "M.t", "u"), "rename-type M.t u"), (("rename constructor", "M.C", "D"), "rename-con M.C D"),
                (("rename module", "M", "N"), "rename-module M N"), (("move", "M.x", "N", 3), "move M.x N 3"), (("replace", (0, 10), parse_expr("x+ 1")), "replace 0.10 x + 1"), (("swap", (0,)), "swap 0"), (("inline", (0, 1)), "inline 0.1"),
                (("extract", (0, 1), (0, 1, 0), "k"), "extract 0.1 0.1.0 k"), (("share", (0, 1), (0, 1, 0), "k"), "share 0.1 0.1.0 k"), (("drop", (0, 1)), "drop 0.1"), (("unfold", (0, 1)), "unfold 0.1"), (("fold", (0, 1), "f"), "fold 0.1 f"), (("flip", "M.x"), "flip M.x"),
                (("swap rules", (0, 1), 2), "swap-rules 0.1 2"), (("drop rule", (0, 1), 2), "drop-rule 0.1 2"), (("split rule", (0, 1), 2, (), "C"), "split-rule 0.1 2 - C"), (("split rule", (0, 1), 2, (0, "M.C", 1), "M.D"), "split-rule 0.1 2 0/M.C/1 M.D"),
                (("merge rules", (0, 1), 2), "merge-rules 0.1 2"), (("turn shape", "M.C", (2, 0, 1)), "turn-shape M.C 2,0,1")]:
            self.assertEqual(keeps(self, change_text, change), text)
            self.assertIs(is_command(f"do w {text}"), True)
            self.assertEqual(change_worded(text), change)

    def test_random(self):
        for seed in range(30):
            program = Typed(seed).program(3, 2, 2)
            if is_accepted(program):
                for change in some_changes(program, random.Random(seed)):
                    text = change_text(change)
                    self.assertTrue(is_command(f"do w {text}"), text)
                    self.assertEqual(change_worded(text), change)

    def test_errors(self):
        look_at_errors(self, change_text, [("change", GOOD[0])], [("change", InvalidChange, bad_for(is_change) + ["swap 0.0"])])
        for change in GOOD:
            self.assertIsInstance(change_text(change), str)


if __name__ == "__main__":
    unittest.main()
