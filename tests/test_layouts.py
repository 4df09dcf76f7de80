"""Texts that are kept, and written anew: [291] to [293]."""

import random
import unittest

from changing import some_changes
from checking import ODD, bad_for, error_of, keeps, look_at_errors
from typed import Typed

from changedsame.deciding import is_change, taken
from changedsame.errors import BadText, InvalidChange, InvalidLayout, InvalidPlace, InvalidProgram, InvalidText, NotAccepted, Refused, TooMany
from changedsame.infer import is_accepted
from changedsame.layouts import Layout, laid_out, written_anew
from changedsame.parser import parse
from changedsame.printer import program_text
from changedsame.tokens import tokens_of
from changedsame.trees import is_program
from changedsame.writedecls import decl_text


def remarks_of(text):
    return [line[line.index("#"):] for line in text.split("\n") if "#" in line]


class TestLayout(unittest.TestCase):
    def test_parts(self):
        text = "# a\n module M # b\n show x= let x=1 # c\n# d\ndo  tell(x)#e\n end # f\nmodule N = end#"
        layout = Layout(text)
        self.assertEqual((layout.text(), layout.program()), (text, parse(text)))
        self.assertEqual(layout.remarks(), ["# a", "# b", "# c", "# d", "#e", "# f", "#"])
        self.assertEqual([text[begin:end] for begin, end in layout.spans(0)], ["let x=1", "do  tell(x)"])
        self.assertEqual(layout.spans(1), [])
        layout.spans(0).append(1)
        layout.remarks().append(1)
        self.assertEqual((len(layout.spans(0)), len(layout.remarks())), (2, 7))

    def test_spans_of_all_kinds(self):
        rows = ["type t ( 'a ) = A of 'a * int | B", "exception E of\n int", "let x = fn y -> # r\n y + 1", "rec f x = f x and\n g y = f (y)", "do match x with _ -> ( 1 ; 2 ) end", "exception F"]
        for gap in (" ", "\n", " # z\n", "\n\n  "):
            text = "module M =" + gap + gap.join(rows) + gap + "end"
            layout = Layout(text)
            self.assertEqual([text[begin:end] for begin, end in layout.spans(0)], rows)
        tight = "module M=let x=(1)do(x)let y=2 end"
        self.assertEqual([tight[begin:end] for begin, end in Layout(tight).spans(0)], ["let x=(1)", "do(x)", "let y=2"])

    def test_like(self):
        one = Layout("module M = end")
        self.assertTrue(one == Layout("module M = end"))
        for other in (Layout("module M =  end"), Layout("module N = end"), "module M = end", None, parse("module M = end")):
            self.assertFalse(one == other)
            self.assertTrue(one != other)

    def test_errors(self):
        look_at_errors(self, Layout, [("text", "module M = end")], [("text", InvalidText, bad_for(lambda value: isinstance(value, str)))])
        for text, position in [("", 0), ("module", 6), ("module M = let x = end", 19), ("module M = end x", 15), ("x", 0), ("module M = let 1", 15)]:
            error = error_of(Layout, text)
            self.assertEqual((type(error), error.position), (BadText, position))
        many = "module M = do (" + "; ".join(["()"] * 38) + ") end"
        self.assertIsNone(error_of(Layout, many))
        error = error_of(Layout, "module M = do (" + "; ".join(["()"] * 45) + ") end")
        self.assertEqual((type(error), error.what), (TooMany, "depth"))
        layout = Layout("module M = end module N = let x = 1 end")
        look_at_errors(self, layout.spans, [("module", 1)], [("module", InvalidPlace, [value for value in ODD if value not in (0, 1) or isinstance(value, bool)] + [2])])


class TestWritten(unittest.TestCase):
    def look(self, text, program_text_, wanted):
        layout, program = Layout(text), parse(program_text_)
        told = keeps(self, written_anew, layout, program)
        self.assertIsInstance(told, Layout)
        self.assertEqual(told.text(), wanted)
        self.assertEqual(told.program(), program)
        self.assertEqual(told.remarks(), layout.remarks())
        self.assertTrue(written_anew(layout, layout.program()) == layout)
        self.assertEqual(layout.text(), text)

    def test_declarations(self):
        text = "module M = # h\n  let a = 1 # a\n  let b =  2\n\n  do  a;b#z\nend # q"
        for told, wanted in [
                ("module M = let a = 1 let b = 2 do a; b end", text), ("module M = let a = 3 let b = 2 do a; b end", text.replace("let a = 1", "let a = 3")), ("module M = let a = 1 let b = 3 do a; b end", text.replace("let b =  2", "let b = 3")),
                ("module M = let a = 1 let b = 2 do b end", text.replace("do  a;b", "do b")), ("module M = let a = 9 let b = 8 do 7 end", "module M = # h\n  let a = 9 # a\n  let b = 8\n\n  do 7#z\nend # q"),
                ("module M = let a = 9 let b = 2 do 7 end", "module M = # h\n  let a = 9 # a\n  let b =  2\n\n  do 7#z\nend # q"), ("module M = let b = 2 do a; b end", "module M = # h\n   # a\n  let b =  2\n\n  do  a;b#z\nend # q"),
                ("module M = let a = 1 do a; b end", "module M = # h\n  let a = 1 # a\n  \n\n  do  a;b#z\nend # q"), ("module M = let a = 1 let b = 2 end", "module M = # h\n  let a = 1 # a\n  let b =  2\n\n  #z\nend # q"), ("module M = end", "module M = # h\n  # a\n  #z\nend # q"),
                ("module M = let a = 1 let c = 5 let b = 2 do a; b end", "module M = # h\n  let a = 1\n  let c = 5 # a\n  let b =  2\n\n  do  a;b#z\nend # q"), ("module M = let c = 5 do 6 let a = 1 let b = 2 do a; b end", "module M =\n  let c = 5\n  do 6 # h\n  let a = 1 # a\n  let b =  2\n\n  do  a;b#z\nend # q"),
                ("module M = let a = 1 let b = 2 do a; b do 1 end", "module M = # h\n  let a = 1 # a\n  let b =  2\n\n  do  a;b\n  do 1#z\nend # q"), ("module M = let a = 7 let c = 1 let b = 2 do a; b end", text.replace("let a = 1", "let a = 7\n  let c = 1")),
                ("module M = do 5 end", "module M = # h\n  # a\n  do 5#z\nend # q"), ("module M = let a = 1 do 5 do 6 do 7 end", "module M = # h\n  let a = 1 # a\n  do 5\n  do 6\n  do 7#z\nend # q"),
                ("module M = let b = 2 let a = 1 do a; b end", "module M = # h\n  let b = 2 # a\n  let a = 1\n\n  do  a;b#z\nend # q"), ("module M = let a = 1 let a = 1 let b = 2 do a; b end", "module M = # h\n  let a = 1\n  let a = 1 # a\n  let b =  2\n\n  do  a;b#z\nend # q")]:
            self.look(text, told, wanted)

    def test_like_declarations_are_not_counted_twice(self):
        self.look("module M = do 1 # a\n do 1 # b\n end", "module M = do 1 end", "module M = do 1 # a\n  # b\n end")
        self.look("module M = do 1 # a\n do 1 # b\n do 1 end", "module M = do 1 do 1 end", "module M = do 1 # a\n do 1 # b\n  end")
        self.look("module M = do 1 # a\n end", "module M = do 1 do 1 do 1 end", "module M = do 1\n  do 1\n  do 1 # a\n end")

    def test_remarks_in_what_is_replaced(self):
        self.look("module M = let x # 1\n = # 2\n 3 # 4\n do x end", "module M = let x = 4 do x end", "module M = # 1\n  # 2\n  let x = 4 # 4\n do x end")
        self.look("module M = do 1 # a\n do # b\n 2 # c\n do 3 # d\n end", "module M = do 4 end", "module M = # a\n  # b\n  # c\n  do 4 # d\n end")
        self.look("module # a\n M # b\n = do 1 end", "module N = do 1 end", "# a\n  # b\n  module N = do 1 end")
        self.look("# 0\nmodule # a\n M # b\n = # c\n do 1 end", "module N show x = do 2 end", "# 0\n# a\n  # b\n  module N show x = # c\n do 2 end")

    def test_heads(self):
        text = "module  M  show x , Y = do 1 end module N = do 2 end"
        self.look(text, "module M show x, Y = do 1 end module N = do 2 end", text)
        self.look(text, "module M show Y, x = do 1 end module N = do 2 end", "module M show Y, x = do 1 end module N = do 2 end")
        self.look(text, "module M = do 1 end module N show () = do 2 end", "module M = do 1 end module N show () = do 2 end")
        self.look(text, "module A show x, Y = do 1 end module B = do 2 end", "module A show x, Y = do 1 end module B = do 2 end")
        self.look(text, "module M show x, Y = do 1 end module N = end", "module  M  show x , Y = do 1 end module N =  end")
        self.look("module M=end", "module M = do 1 end", "module M=\n  do 1 end")
        self.look("module M=end", "module N = do 1 end", "module N =\n  do 1 end")
        self.look("module M=end", "module N = do () end", "module N =\n  do ()end")

    def test_letters_that_would_meet(self):
        self.look("module M = let x=(1)do(x)end", "module M = let x = 1 do (x; x) end", "module M = let x=(1)do x; x end")
        self.look("module M = let x=(1)let y=(2)end", "module M = let x = 1 + 1 let y = 2 end", "module M = let x = 1 + 1 let y=(2)end")
        self.look("module M = let x=(1)do(x)let y=2 end", "module M = let x = 1 let y = 2 end", "module M = let x=(1)let y=2 end")
        self.look("module M = do (1)do(2)do 3 end", "module M = do 1 do 4 do 3 end", "module M = do (1)do 4 do 3 end")
        self.look("module M = let x=(1)end module N=end", "module M = let x = 2 end module N = end", "module M = let x = 2 end module N=end")

    def test_other_numbers_of_modules(self):
        text = "# a\nmodule M = # b\n let x =  1 end # c"
        self.look(text, "module M = let x = 1 end module N = end", "# a\n# b\n# c\nmodule M =\n  let x = 1\nend\nmodule N =\nend\n")
        self.look("module M = end module N = end # z", "module M = end", "# z\nmodule M =\nend\n")
        self.look("module M = end", "module M = end module N = do 1 end", "module M =\nend\nmodule N =\n  do 1\nend\n")

    def test_errors(self):
        layout, program = Layout("module M = end"), parse("module M = end")
        look_at_errors(self, written_anew, [("layout", layout), ("program", program)], [("layout", InvalidLayout, ODD + ["module M = end"]), ("program", InvalidProgram, bad_for(is_program))])
        self.assertEqual(written_anew(layout, parse("module M = do z end")).text(), "module M =\n  do z end")


class TestLaidOut(unittest.TestCase):
    def test_some(self):
        layout = Layout("module M = # h\n let x =  1 # r\n do  tell(x) end")
        told = keeps(self, laid_out, layout, ("rename value", "M.x", "y"))
        self.assertEqual(told.text(), "module M = # h\n let y = 1 # r\n do tell(y) end")
        self.assertEqual(laid_out(layout, ("fold", (0, 1, 0), "f")).text(), "module M = # h\n let x =  1 # r\n do tell(let f = fn x0 -> x in f ()) end")
        error = error_of(laid_out, layout, ("rename value", "M.z", "y"))
        self.assertEqual((type(error), error.reason), (Refused, ("place",)))
        error = error_of(laid_out, layout, ("drop", (0, 1)))
        self.assertEqual((type(error), error.reason), (Refused, ("place",)))
        error = error_of(laid_out, layout, ("move", "M.x", "M", 1))
        self.assertEqual((type(error), error.reason), (Refused, ("fault", "not bound", "x")))

    def test_errors(self):
        layout = Layout("module M = let x = 1 end")
        look_at_errors(self, laid_out, [("layout", layout), ("change", ("rename value", "M.x", "y"))], [("layout", InvalidLayout, ODD), ("change", InvalidChange, bad_for(is_change))])
        bad = Layout("module M = do 1 + true end")
        self.assertIs(type(error_of(laid_out, bad, ("swap", (0, 0)))), NotAccepted)
        self.assertIs(type(error_of(laid_out, bad, 1)), InvalidChange)


def messy(program, rand):
    """A text of a program with gaps, remarks and odd blanks between its tokens."""
    text, last, many = program_text(program), 0, 0
    out = []
    for kind, word, at in tokens_of(text):
        gap = text[last:at]
        if rand.random() < 0.12:
            gap = rand.choice([" ", "\n", "", " "]) + f"# {many} " + rand.choice(["", "#", "let x = 1", "end"]) + "\n"
            many += 1
        elif gap.strip(" \n") == "" and gap and rand.random() < 0.3:
            gap = rand.choice(["  ", "\n", " \n\n "])
        out.append(gap + word)
        last = at + len(word)
    return "".join(out) + rand.choice(["", "\n", " # bye", "\n# bye\n"])


class TestRandom(unittest.TestCase):
    def look(self, layout, program, told):
        self.assertEqual(told.program(), program)
        self.assertEqual(told.remarks(), layout.remarks())
        self.assertEqual(told.remarks(), remarks_of(told.text()))
        old = layout.program()
        if len(old) != len(program):
            return
        spans = [[layout.text()[begin:end] for begin, end in layout.spans(k)] for k in range(len(old))]
        for at, module in enumerate(program):
            now = [told.text()[begin:end] for begin, end in told.spans(at)]
            for k, decl in enumerate(module[3]):
                if len(old[at][3]) == len(module[3]):
                    self.assertEqual(now[k], spans[at][k] if old[at][3][k] == decl else decl_text(decl))
                else:
                    self.assertIn(now[k], spans[at] + [decl_text(decl)])

    def test_changes(self):
        done = 0
        for seed in range(40):
            rand = random.Random(seed)
            program = Typed(seed).program(3, 2, 2)
            if not is_accepted(program):
                continue
            layout = Layout(messy(program, rand))
            self.assertEqual(layout.program(), program)
            self.assertEqual(written_anew(layout, program).text(), layout.text())
            for change in some_changes(program, rand, 5):
                behind = taken(program, change)
                if behind is None:
                    self.assertEqual(type(error_of(laid_out, layout, change)), Refused)
                    continue
                told = laid_out(layout, change)
                self.look(layout, behind, told)
                self.assertEqual(told.text(), written_anew(layout, behind).text())
                done += 1
        self.assertGreater(done, 30)

    def test_other_programs(self):
        for seed in range(150):
            rand = random.Random(seed)
            program = Typed(seed % 40).program(2, rand.choice([1, 2]), 3)
            modules = []
            for title, module in zip(["M", "Q"], program):
                decls = list(module[3])
                for _ in range(rand.randint(0, 3)):
                    if decls and rand.random() < 0.5:
                        decls.pop(rand.randrange(len(decls)))
                    elif decls and rand.random() < 0.3:
                        decls.append(decls.pop(0))
                    else:
                        decls.insert(rand.randint(0, len(decls)), ("do", ("int", rand.randint(0, 9))))
                modules.append(("module", rand.choice([module[1], title]), rand.choice([module[2], ("x",), None]), tuple(decls)))
            other = tuple(modules)
            if not is_program(program) or not is_program(other):
                continue
            layout = Layout(messy(program, rand))
            self.look(layout, other, written_anew(layout, other))


if __name__ == "__main__":
    unittest.main()
