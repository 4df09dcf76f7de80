"""The desk: works under names, deeds done, taken back and done again: [294], [295]."""

import random
import unittest

from changing import some_changes
from checking import ODD, bad_for, error_of, look_at_errors
from typed import Typed

from changedsame.commands import change_text, is_command
from changedsame.deciding import taken
from changedsame.desk import Desk
from changedsame.errors import (
    BadText, CommandFailed, InvalidChange, InvalidChanges, InvalidCommand, InvalidDeeds, InvalidPlace, NameTaken, NotAccepted, NothingToRedo, NothingToUndo, Refused, TooMany, UnknownName, UnlikeBegins)
from changedsame.infer import is_accepted
from changedsame.layouts import Layout, laid_out
from changedsame.parser import parse
from changedsame.printer import program_text

TEXT = "module M = # h\n let x =  1 # r\n do  tell(x + x) do (let a = 2 in a) end"
RENAMED = "module M = # h\n let y = 1 # r\n do tell(y + y) do (let a = 2 in a) end"


def state_of(desk):
    return (desk.names(), len(desk), desk.lines(), [(desk.do(f"text {name}"), desk.do(f"changes {name}")) for name in desk.names()])


def begun(*names):
    desk = Desk()
    for name in names:
        desk.do(f"begin {name} {TEXT}")
    return desk


class TestDeeds(unittest.TestCase):
    def test_an_empty_desk(self):
        desk = Desk()
        self.assertEqual((desk.names(), len(desk), desk.lines(), desk.do("names")), ([], 0, [], "-"))
        for value in ODD + ["w"]:
            self.assertIs(value in desk, False)

    def test_begin(self):
        desk = Desk()
        self.assertEqual(desk.do(f"begin w {TEXT}"), "-")
        self.assertEqual(desk(f"begin a1 {TEXT}"), "-")
        self.assertEqual((desk.do("names"), desk.names(), len(desk), desk.do("text w"), desk.do("changes w")), ("a1 w", ["a1", "w"], 2, TEXT, "-"))
        self.assertTrue(desk["w"] == Layout(TEXT))
        self.assertTrue("w" in desk and "a1" in desk and "a" not in desk)
        for command, kind, told in [(f"begin w {TEXT}", NameTaken, "w"), ("begin w (", NameTaken, "w")]:
            error = error_of(desk.do, command)
            self.assertEqual((type(error), error.name), (kind, told))
        for command, kind in [("begin b (", BadText), ("begin b  ", BadText), ("begin b module M = do z end", NotAccepted), ("begin b module M = do 1 + true end", NotAccepted), ("begin b module M = do (" + "; ".join(["()"] * 45) + ") end", TooMany)]:
            self.assertIs(type(error_of(desk.do, command)), kind)
        self.assertEqual(state_of(desk), (["a1", "w"], 2, [f"begin w {TEXT}", f"begin a1 {TEXT}"], [(TEXT, "-"), (TEXT, "-")]))

    def test_do_back_on(self):
        desk = begun("w")
        self.assertEqual(desk.do("do w rename-value M.x y"), "-")
        self.assertEqual((desk.do("text w"), desk.do("changes w"), len(desk)), (RENAMED, "rename-value M.x y", 2))
        self.assertEqual(desk.do("do w inline 0.2"), "-")
        self.assertEqual(desk.do("changes w"), "rename-value M.x y\ninline 0.2")
        self.assertEqual(desk.do("text w"), RENAMED.replace("do (let a = 2 in a)", "do 2"))
        self.assertEqual((desk.do("back w"), desk.do("text w"), desk.do("changes w")), ("-", RENAMED, "rename-value M.x y"))
        self.assertEqual((desk.do("back w"), desk.do("text w"), desk.do("changes w")), ("-", TEXT, "-"))
        self.assertIs(type(error_of(desk.do, "back w")), NothingToUndo)
        self.assertEqual((desk.do("on w"), desk.do("text w")), ("-", RENAMED))
        self.assertEqual((desk.do("on w"), desk.do("changes w")), ("-", "rename-value M.x y\ninline 0.2"))
        self.assertIs(type(error_of(desk.do, "on w")), NothingToRedo)
        desk.do("back w")
        error = error_of(desk.do, "do w inline 0.1")
        self.assertEqual((type(error), error.reason), (Refused, ("place",)))
        self.assertEqual(desk.do("on w"), "-")
        desk.do("back w")
        desk.do("do w rename-value M.y z")
        self.assertIs(type(error_of(desk.do, "on w")), NothingToRedo)
        self.assertEqual(desk.do("changes w"), "rename-value M.x y\nrename-value M.y z")
        self.assertEqual(len(desk), 11)

    def test_errors_of_changes(self):
        desk = begun("w")
        for command, kind, told in [
                ("do w replace 0.0 (", BadText, 1), ("do w replace 0.9 (", BadText, 1), ("do w replace 0.9 1", Refused, ("place",)), ("do w turn-shape M.C 1,1", InvalidChange, ("turn shape", "M.C", (1, 1))), ("do w drop 0.2", Refused, ("clash", (0, 2, 1))),
                ("do q swap 0.0", UnknownName, "q"), ("do q replace 0.0 (", UnknownName, "q"), ("decide q replace 0.0 (", UnknownName, "q"), ("decide w replace 0.0 (", BadText, 1), ("decide w turn-shape M.C 1,1", InvalidChange, ("turn shape", "M.C", (1, 1)))]:
            error = error_of(desk.do, command)
            self.assertIs(type(error), kind, command)
            self.assertEqual([error.__dict__[name] for name in ("position", "reason", "value") if name in error.__dict__], [told], command)
        self.assertEqual(state_of(desk), state_of(begun("w")))

    def test_merge(self):
        desk = begun("w", "o")
        desk.do("do w rename-value M.x y")
        desk.do("do o inline 0.2")
        desk.do("do o rename-module M N")
        self.assertEqual(desk.do("merge m w o"), "-")
        self.assertEqual(desk.do("changes m"), "rename-value M.x y\ninline 0.2\nrename-module M N")
        self.assertEqual(desk.do("text m"), RENAMED.replace("do (let a = 2 in a)", "do 2").replace("module M = # h", "module N = # h"))
        self.assertEqual(desk.do("merge n o w"), "-")
        self.assertEqual(desk.do("changes n"), "inline 0.2\nrename-module M N\nrename-value N.x y")
        self.assertEqual(desk["n"].program(), desk["m"].program())
        for _ in range(3):
            desk.do("back m")
        self.assertEqual(desk.do("text m"), TEXT)
        self.assertEqual(desk.do("merge k w w"), "-")
        self.assertEqual(desk.do("changes k"), "rename-value M.x y\nrename-value M.y y")
        desk.do("do o rename-value N.x z")
        error = error_of(desk.do, "merge p w o")
        self.assertEqual((type(error), error.reason), (Refused, ("apart", 0, 2)))
        for command, kind, name in [("merge w w o", NameTaken, "w"), ("merge w q o", NameTaken, "w"), ("merge p q r", UnknownName, "q"), ("merge p w r", UnknownName, "r"), ("merge p p w", UnknownName, "p")]:
            error = error_of(desk.do, command)
            self.assertIs(type(error), kind)
            self.assertEqual(getattr(error, "name", None) or error.value, name)
        desk.do("begin other module M = do 1 end")
        self.assertIs(type(error_of(desk.do, "merge p w other")), UnlikeBegins)
        desk.do("begin like module M=let x=1 do tell(x+x)do(let a=2 in a)end")
        self.assertEqual(desk.do("merge p like w"), "-")
        self.assertEqual(desk.do("text p"), "module M=let y = 1 do tell(y + y)do(let a=2 in a)end")
        for k in range(12):
            desk.do(f"do like rename-value M.{'xy'[k % 2]} {'yx'[k % 2]}")
        desk.do(f"begin empty {TEXT}")
        self.assertEqual(desk.do("merge big like empty"), "-")
        self.assertEqual(desk.do("changes big"), desk.do("changes like"))
        desk.do("do like rename-value M.x y")
        error = error_of(desk.do, "merge bigger empty like")
        self.assertEqual((type(error), len(error.value)), (InvalidChanges, 13))

    def test_copy_and_drop(self):
        desk = begun("w")
        desk.do("do w rename-value M.x y")
        desk.do("back w")
        self.assertEqual(desk.do("copy c w"), "-")
        self.assertEqual(desk.do("on c"), "-")
        self.assertEqual((desk.do("text c"), desk.do("text w")), (RENAMED, TEXT))
        desk.do("do w inline 0.2")
        self.assertEqual(desk.do("changes c"), "rename-value M.x y")
        for command, kind, name in [("copy c w", NameTaken, "c"), ("copy c q", NameTaken, "c"), ("copy d q", UnknownName, "q"), ("drop-work q", UnknownName, "q")]:
            error = error_of(desk.do, command)
            self.assertEqual((type(error), getattr(error, "name", None) or error.value), (kind, name))
        self.assertEqual((desk.do("drop-work w"), desk.names(), "w" in desk), ("-", ["c"], False))
        self.assertIs(type(error_of(desk.do, "text w")), UnknownName)
        desk.do("copy w c")
        self.assertEqual(desk.do("names"), "c w")

    def test_other_commands(self):
        desk = begun("w")
        before = state_of(desk)
        for command, told in [
                ("names", "w"), ("text w", TEXT), ("changes w", "-"), ("at w 0.1", "tell(x + x)"), ("at w 0.2.1", "a"), ("decide w rename-value M.x y", "taken"), ("decide w rename-value M.z y", "refused place"), ("decide w drop 0.2", "refused clash"),
                ("decide w replace 0.2 3", "refused parts"), ("decide w replace 0.2 1 + true", "refused untyped"), ("decide w replace 0.2 (1, 2)", "refused beyond"), ("decide w move M.x M 1", "refused fault")]:
            self.assertEqual(desk.do(command), told, command)
        error = error_of(desk.do, "at w 0.0.0")
        self.assertEqual((type(error), error.value), (InvalidPlace, (0, 0, 0)))
        for command in ("text q", "changes q", "at q 0", "decide q swap 0", "back q", "on q"):
            error = error_of(desk.do, command)
            self.assertEqual((type(error), error.value), (UnknownName, "q"))
        self.assertEqual(state_of(desk), before)

    def test_errors(self):
        desk = begun("w")
        bad = ODD + ["text", "undo ", "do w swap 0.01", "begin w", "Text w"]
        look_at_errors(self, desk.do, [("command", "names")], [("command", InvalidCommand, bad_for(is_command) + bad)])
        look_at_errors(self, desk, [("command", "names")], [("command", InvalidCommand, bad_for(is_command) + bad)])
        for value in ODD + ["q", "W"]:
            error = error_of(lambda name: desk[name], value)
            self.assertIs(type(error), UnknownName)
            self.assertTrue(error.value is value or error.value == value)
            self.assertIs(value in desk, False)
        self.assertIs(type(error_of(iter, desk)), TypeError)


class TestUndo(unittest.TestCase):
    def test_each_deed(self):
        desk = Desk()
        lines = [f"begin w {TEXT}", "do w rename-value M.x y", "back w", "on w", "copy c w", "do c inline 0.2", "merge m w c", "drop-work w"]
        states = [state_of(desk)]
        for line in lines:
            if line == "merge m w c":
                line = "merge m w w"
            self.assertEqual(desk.do(line), "-")
            states.append(state_of(desk))
        lines[6] = "merge m w w"
        self.assertEqual(desk.lines(), lines)
        for _ in range(2):
            for k in range(len(lines) - 1, -1, -1):
                self.assertEqual(desk.do("undo"), lines[k])
                self.assertEqual(state_of(desk), states[k])
            self.assertIs(type(error_of(desk.do, "undo")), NothingToUndo)
            for k in range(len(lines)):
                self.assertEqual(desk.do("redo"), lines[k])
                self.assertEqual(state_of(desk), states[k + 1])
            self.assertIs(type(error_of(desk.do, "redo")), NothingToRedo)

    def test_what_is_not_done_again(self):
        desk = begun("w", "o")
        desk.do("undo")
        self.assertEqual(desk.do("text w"), TEXT)
        self.assertIs(type(error_of(desk.do, "begin w x")), NameTaken)
        self.assertEqual(desk.do("redo"), f"begin o {TEXT}")
        desk.do("undo")
        desk.do("do w inline 0.2")
        self.assertIs(type(error_of(desk.do, "redo")), NothingToRedo)
        self.assertEqual(desk.lines(), [f"begin w {TEXT}", "do w inline 0.2"])
        desk.lines().append("more")
        desk.names().append("more")
        self.assertEqual((len(desk.lines()), desk.names()), (2, ["w"]))


class TestRows(unittest.TestCase):
    def test_do_all(self):
        desk = Desk()
        self.assertEqual(desk.do_all(), [])
        self.assertEqual(desk.do_all(f"begin w {TEXT}", "names", "do w inline 0.2", "undo"), ["-", "w", "-", "do w inline 0.2"])
        before = state_of(desk)
        for commands, position, kind in [
                (("do w rename-value M.x y", "text q"), 1, UnknownName), (("redo", "do w rename-value M.x y", "undo", "undo", "undo", "undo"), 5, NothingToUndo), (("nothing",), 0, InvalidCommand), (("names", 5), 1, InvalidCommand), (("do w drop 0.2",), 0, Refused),
                (("drop-work w", f"begin w {TEXT}", "do w inline 0.1"), 2, Refused), (("undo", "undo"), 1, NothingToUndo), (("begin v (",), 0, BadText)]:
            error = error_of(desk.do_all, *commands)
            self.assertEqual((type(error), error.position), (CommandFailed, position), commands)
            self.assertIs(type(error.__cause__), kind)
            self.assertEqual(state_of(desk), before)
        self.assertEqual(desk.do("redo"), "do w inline 0.2")

    def test_twelve_names(self):
        desk = Desk()
        for k in range(12):
            desk.do(f"begin w{k} {TEXT}")
        for command in (f"begin v {TEXT}", "copy v w1", "merge v w1 w2"):
            error = error_of(desk.do, command)
            self.assertEqual((type(error), error.what, error.limit), (TooMany, "names", 12))
        self.assertIs(type(error_of(desk.do, "begin v (")), BadText)
        self.assertIs(type(error_of(desk.do, "copy v q")), UnknownName)
        self.assertIs(type(error_of(desk.do, "copy w1 q")), NameTaken)
        self.assertEqual(len(desk), 12)
        desk.do("drop-work w3")
        self.assertEqual(desk.do("copy v w1"), "-")
        self.assertEqual(len(desk.names()), 12)

    def test_two_hundred_deeds(self):
        desk = begun("w")
        for k in range(99):
            desk.do(f"do w rename-value M.{'xy'[k % 2]} {'yx'[k % 2]}")
        for k in range(50):
            desk.do("back w")
            desk.do("on w")
        self.assertEqual(len(desk), 200)
        before = state_of(desk)
        for command in ("back w", "copy v w", "drop-work w", f"begin v {TEXT}", "do w rename-value M.y x"):
            error = error_of(desk.do, command)
            self.assertEqual((type(error), error.what, error.limit), (TooMany, "deeds", 200))
        self.assertIs(type(error_of(desk.do, "on w")), NothingToRedo)
        self.assertIs(type(error_of(desk.do, "do w rename-value M.q x")), Refused)
        self.assertEqual(state_of(desk), before)
        self.assertEqual(desk.do("names"), "w")
        lines = desk.lines()
        self.assertEqual(state_of(Desk.again(lines)), before)
        error = error_of(Desk.again, lines + ["back w"])
        self.assertEqual((type(error), error.position, type(error.__cause__)), (CommandFailed, 200, TooMany))
        desk.do("undo")
        self.assertEqual(desk.do("redo"), "on w")
        desk.do("undo")
        self.assertEqual(desk.do("do w rename-value M.x z"), "-")

    def test_a_hundred_changes(self):
        desk = begun("w")
        for k in range(100):
            desk.do(f"do w rename-value M.{'xy'[k % 2]} {'yx'[k % 2]}")
        error = error_of(desk.do, "do w rename-value M.x y")
        self.assertEqual((type(error), error.what, error.limit), (TooMany, "changes", 100))
        self.assertEqual(desk.do("decide w rename-value M.x y"), "taken")
        self.assertEqual(len(desk.do("changes w").split("\n")), 100)

    def test_again(self):
        desk = Desk.again([f"begin w {TEXT}", "do w rename-value M.x y"])
        self.assertIsInstance(desk, Desk)
        self.assertEqual(desk.do("text w"), RENAMED)
        self.assertEqual((len(Desk.again([])), len(Desk.again(()))), (0, 0))
        for value in [None, 1, "x", {}, {0: "back w"}, set(), f"begin w {TEXT}"]:
            error = error_of(Desk.again, value)
            self.assertEqual((type(error), error.position), (InvalidDeeds, None), value)
        for lines, position in [(["names"], 0), ([f"begin w {TEXT}", "undo"], 1), ([f"begin w {TEXT}", "back q", 5], 2), (["back w", "x", "y"], 1), ([None], 0), ((f"begin w {TEXT}", "text w"), 1)]:
            error = error_of(Desk.again, lines)
            self.assertEqual((type(error), error.position), (InvalidDeeds, position), lines)
            self.assertEqual(error_of(Desk.again, lines=lines).position, position)
        for lines, position, kind in [(["back w"], 0, UnknownName), ([f"begin w {TEXT}", "back w"], 1, NothingToUndo), ([f"begin w {TEXT}", "do w swap 0.0", "back w"], 1, Refused), ([f"begin w {TEXT}", f"begin w {TEXT}"], 1, NameTaken)]:
            error = error_of(Desk.again, lines)
            self.assertEqual((type(error), error.position, type(error.__cause__)), (CommandFailed, position, kind))

    def test_copy(self):
        desk = begun("w")
        desk.do("do w inline 0.2")
        desk.do("undo")
        other = desk.copy()
        self.assertIsInstance(other, Desk)
        self.assertEqual(state_of(other), state_of(desk))
        self.assertEqual(other.do("redo"), "do w inline 0.2")
        self.assertEqual((len(desk), len(other)), (1, 2))
        desk.do("do w rename-value M.x y")
        self.assertEqual((desk.do("changes w"), other.do("changes w")), ("rename-value M.x y", "inline 0.2"))
        other.do_all("undo", "undo")
        self.assertEqual((desk.names(), other.names()), (["w"], []))

    def test_random(self):
        for seed in range(16):
            rand = random.Random(seed)
            program = Typed(seed).program(3, 2, 2)
            if not is_accepted(program):
                continue
            text = program_text(program).replace("\n", " # so\n", 1)
            desk = Desk()
            desk.do(f"begin w {text}")
            layout, now = Layout(text), program
            for change in some_changes(program, rand, 6):
                behind = taken(now, change)
                command = f"do w {change_text(change)}"
                self.assertEqual(desk.do(f"decide w {change_text(change)}"), "taken" if behind else "refused " + error_of(desk.do, command).reason[0])
                if behind is not None:
                    desk.do(command)
                    layout, now = laid_out(layout, change), behind
                self.assertEqual((desk.do("text w"), desk["w"].program()), (layout.text(), now))
            other = Desk.again(desk.lines())
            self.assertEqual(state_of(other), state_of(desk))
            for _ in range(len(desk) - 1):
                desk.do("back w")
                self.assertIn(len(desk), range(200))
                if desk.do("changes w") == "-":
                    break
            self.assertEqual(desk.do("text w"), text)
            self.assertEqual(parse(desk.do("text w")), program)


if __name__ == "__main__":
    unittest.main()
