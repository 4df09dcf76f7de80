"""From texts to tokens: [13]."""

import unittest

from checking import bad_for, keeps, look_at_errors

from changedsame.errors import BadText, InvalidText
from changedsame.tokens import tokens_of

KEYWORDS = ("and array ask at bool do else end exception exn false fn if in int let match mod module not of place "
            "raise rec ref same show size tell then true try type unit with").split()
SIGNS = "( ) , ; | _ ' ! + - * / = < <= := ->".split()


class TestTokens(unittest.TestCase):
    def kinds(self, text):
        return [(kind, word) for kind, word, _ in tokens_of(text)]

    def bad(self, text, position):
        with self.assertRaises(BadText) as caught:
            tokens_of(text)
        self.assertEqual(caught.exception.position, position, text)

    def test_each_word_and_sign(self):
        for word in KEYWORDS:
            self.assertEqual(tokens_of(" " + word), [("word", word, 1)])
            self.assertEqual(tokens_of(word + "1"), [("name", word + "1", 0)])
        for sign in SIGNS:
            self.assertEqual(tokens_of(sign), [("sign", sign, 0)])

    def test_names(self):
        for text in ("x", "x9Y", "a" * 20, "M.x", "M1.x9", "M" * 20 + "." + "x" * 20):
            self.assertEqual(tokens_of(text), [("name", text, 0)])
        for text in ("X", "X9y", "A" * 20, "M.X", "M1.X9", "M" * 20 + "." + "X" * 20):
            self.assertEqual(tokens_of(text), [("big", text, 0)])

    def test_names_that_are_too_long(self):
        for text in ("a" * 21, "A" * 21, "A" * 21 + ".x", "x" + "9" * 20):
            self.bad(text, 0)
        self.bad("M." + "x" * 21, 1)
        self.bad("M." + "X" * 21, 1)

    def test_points(self):
        for text, position in (("x.y", 1), ("M.x.y", 3), ("M.N.x", 3), ("M.", 1), ("M. x", 1), ("M .x", 2), (".", 0),
                               ("M.1", 1), ("M.in", 1), ("M.end x", 1), ("1.x", 1), ("M._", 1), ("M.~1", 1),
                               ("in.x", 2), ("M..x", 1), ("M.x1.", 4)):
            self.bad(text, position)

    def test_numbers(self):
        for text in ("0", "7", "10", "2147483647", "~1", "~5", "~2147483648", "~10"):
            self.assertEqual(tokens_of(text), [("number", text, 0)])
        for text in ("00", "007", "01", "2147483648", "9999999999", "99999999999999", "12ab", "1x", "~0", "~00", "~05",
                     "~2147483649", "~", "~ 5", "~7a", "~x", "~~5", "~-5", "~M", "0x1"):
            self.bad(text, 0)
        self.bad("x ~0", 2)
        self.bad("5 12ab", 2)
        self.bad("~5~", 2)

    def test_the_longest_token(self):
        self.assertEqual(self.kinds("x<=y"), [("name", "x"), ("sign", "<="), ("name", "y")])
        self.assertEqual(self.kinds("<=="), [("sign", "<="), ("sign", "=")])
        self.assertEqual(self.kinds("=<="), [("sign", "="), ("sign", "<=")])
        self.assertEqual(self.kinds("x->y"), [("name", "x"), ("sign", "->"), ("name", "y")])
        self.assertEqual(self.kinds("--> "), [("sign", "-"), ("sign", "->")])
        self.assertEqual(self.kinds("x:=!y"), [("name", "x"), ("sign", ":="), ("sign", "!"), ("name", "y")])
        self.assertEqual(self.kinds("x-1"), [("name", "x"), ("sign", "-"), ("number", "1")])
        self.assertEqual(self.kinds("1-~1"), [("number", "1"), ("sign", "-"), ("number", "~1")])
        self.assertEqual(self.kinds("a_b"), [("name", "a"), ("sign", "_"), ("name", "b")])
        self.assertEqual(self.kinds("fnx fn1"), [("name", "fnx"), ("name", "fn1")])
        self.assertEqual(self.kinds("'a"), [("sign", "'"), ("name", "a")])
        self.assertEqual(self.kinds("((M.x))"), [("sign", "("), ("sign", "("), ("name", "M.x"), ("sign", ")"), ("sign", ")")])

    def test_what_begins_none(self):
        for text, position in ((":", 0), ("x : y", 2), (">", 0), ("x > y", 2), (">=", 0), ("- >", 2), ("@", 0),
                               ("a & b", 2), ("\"", 0), ("[x]", 0), ("{", 0), ("x?", 1), ("\\", 0), ("^", 0), ("`", 0),
                               ("$", 0), ("x\n:", 2), ("a; b; :x", 6)):
            self.bad(text, position)

    def test_the_first_place_is_told(self):
        self.bad("x ~ 00", 2)
        self.bad("  00 :", 2)

    def test_blanks_and_remarks(self):
        self.assertEqual(tokens_of(""), [])
        self.assertEqual(tokens_of("  \n \n"), [])
        self.assertEqual(tokens_of("# only : 12ab ~0"), [])
        self.assertEqual(tokens_of("x# y\ny"), [("name", "x", 0), ("name", "y", 5)])
        self.assertEqual(tokens_of("# a\n# b\n\nx"), [("name", "x", 9)])
        self.assertEqual(tokens_of("x##\n#\ny #"), [("name", "x", 0), ("name", "y", 6)])
        self.assertEqual(self.kinds("<#\n="), [("sign", "<"), ("sign", "=")])
        self.assertEqual(self.kinds("ab cd\nef"), [("name", "ab"), ("name", "cd"), ("name", "ef")])
        self.bad("x # y\n:", 6)

    def test_errors(self):
        bad = [value for value in bad_for(lambda value: isinstance(value, str))]
        look_at_errors(self, tokens_of, [("text", "x")], [("text", InvalidText, bad)])
        self.assertIsInstance(keeps(self, tokens_of, "x + 1"), list)


if __name__ == "__main__":
    unittest.main()
