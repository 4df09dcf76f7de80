"""Linear forms: [213]."""

import random
import unittest

from checking import ODD, bad_for, keeps, look_at_errors

from changedsame.errors import InvalidAtom, InvalidForm, InvalidNumber, InvalidValues
from changedsame.linears import (
    atom_form, form_less, form_sum, form_times, form_worth, is_atom, is_form, number_form, parting_values)
from changedsame.stores import wrapped

ATOMS = [("name", "x"), ("name", "y1"), ("start", 0), ("start", 3), ("left", 0, 0), ("left", 10, 2), ("result", 0),
         ("result", 12), ("input", 0), ("input", 5)]
NOT_ATOMS = ODD + [("name",), ("name", "X"), ("name", "M.x"), ("name", "if"), ("name", 1), ("name", "x", 1), ("start",),
                   ("start", -1), ("start", True), ("start", "0"), ("start", 0, 0), ("left", 0), ("left", 0, False), ("left", 0, 0, 0),
                   ("result", None), ("input", (0,)), ["name", "x"], ("names", "x")]
NUMBER = 4294967296
NOT_FORMS = ODD + [
    (0, []), [0, ()], (-1, ()), (NUMBER, ()), (True, ()), (0, (), ()), (0, ((("name", "x"), 0),)), (0, ((("name", "x"), NUMBER),)),
    (0, ((("name", "x"), True),)), (0, ((("name", "x"), -1),)), (0, ([("name", "x"), 1],)), (0, ((("name", "x"), 1, 1),)),
    (0, ((("name", "x"), 1), (("name", "x"), 1))), (0, ((("name", "x"), 1), (("name", "a"), 1))),
    (0, ((("start", 0), 1), (("name", "a"), 1))), (0, ((("names", "x"), 1),)), (0, (("name", "x"),)), ("0", ()), (0, None)]


def random_form(rand):
    atoms = sorted(rand.sample(ATOMS, rand.randint(0, 4)))
    pick = lambda least: rand.choice([1, 2, NUMBER - 1, 2 ** 31, rand.randint(least, NUMBER - 1)])
    return (rand.choice([0, pick(0)]), tuple((atom, pick(1)) for atom in atoms))


class TestForms(unittest.TestCase):
    def test_atoms_and_forms(self):
        for atom in ATOMS:
            self.assertIs(is_atom(atom), True)
            self.assertEqual(keeps(self, atom_form, atom), (0, ((atom, 1),)))
        for value in NOT_ATOMS:
            self.assertIs(is_atom(value), False, value)
        for form in [(0, ()), (NUMBER - 1, ()), (1, ((("name", "x"), NUMBER - 1),)), (0, tuple((a, 1) for a in sorted(ATOMS)))]:
            self.assertIs(is_form(form), True)
        for value in NOT_FORMS:
            self.assertIs(is_form(value), False, value)

    def test_sorted_atoms(self):
        self.assertEqual([atom[0] for atom in sorted(ATOMS)],
                         ["input", "input", "left", "left", "name", "name", "result", "result", "start", "start"])

    def test_numbers(self):
        for number, told in [(0, 0), (1, 1), (-1, NUMBER - 1), (2147483647, 2147483647), (-2147483648, 2147483648)]:
            self.assertEqual(number_form(number), (told, ()))
            self.assertEqual(form_worth(number_form(number), []), number)

    def test_sums(self):
        x, y = atom_form(("name", "x")), atom_form(("name", "y"))
        self.assertEqual(form_sum(y, x), (0, ((("name", "x"), 1), (("name", "y"), 1))))
        self.assertEqual(form_sum(x, y), form_sum(y, x))
        self.assertEqual(form_less(form_sum(x, y), y), x)
        self.assertEqual(form_less(x, form_sum(x, y)), (0, ((("name", "y"), NUMBER - 1),)))
        self.assertEqual(form_sum(form_times(x, -1), x), (0, ()))
        self.assertEqual(form_times(form_times(x, 65536), 65536), (0, ()))
        self.assertEqual(form_times((3, ((("name", "x"), 2),)), 0), (0, ()))
        self.assertEqual(form_times((3, ((("name", "x"), 2),)), -2), (NUMBER - 6, ((("name", "x"), NUMBER - 4),)))
        self.assertEqual(form_sum((NUMBER - 1, ()), (2, ())), (1, ()))
        self.assertEqual(form_less((0, ()), (1, ())), (NUMBER - 1, ()))
        self.assertEqual(form_times(atom_form(("name", "x")), -2147483648), (0, ((("name", "x"), 2147483648),)))

    def test_worth(self):
        form = (5, ((("input", 2), 3), (("name", "x"), NUMBER - 1)))
        self.assertEqual(form_worth(form, []), 5)
        self.assertEqual(form_worth(form, [(("name", "x"), 7)]), -2)
        self.assertEqual(form_worth(form, ((("name", "x"), 7), (("input", 2), -2147483648), (("start", 0), 1))), 2147483646)
        self.assertEqual(form_worth((2147483647, ((("name", "x"), 1),)), [(("name", "x"), 1)]), -2147483648)

    def test_random_forms(self):
        rand = random.Random(7)
        for _ in range(300):
            one, other = random_form(rand), random_form(rand)
            number = rand.choice([0, 1, -1, 2147483647, -2147483648, rand.randint(-99, 99)])
            values = [(atom, rand.choice([0, 1, -1, 2147483647, rand.randint(-2 ** 31, 2 ** 31 - 1)])) for atom in ATOMS]
            worth = lambda form: form_worth(form, values)
            for form in (keeps(self, form_sum, one, other), form_less(one, other), form_times(one, number)):
                self.assertTrue(is_form(form))
            self.assertEqual(worth(form_sum(one, other)), wrapped(worth(one) + worth(other)))
            self.assertEqual(worth(form_less(one, other)), wrapped(worth(one) - worth(other)))
            self.assertEqual(worth(form_times(one, number)), wrapped(worth(one) * number))
            self.assertEqual(form_sum(form_less(one, other), other), one)
            apart = keeps(self, parting_values, one, other)
            if one == other:
                self.assertIsNone(apart)
            else:
                self.assertNotEqual(form_worth(one, apart), form_worth(other, apart))
                if one[0] != other[0]:
                    self.assertEqual(apart, [])
                else:
                    many = [dict(form[1]) for form in (one, other)]
                    unlike = [atom for atom in sorted(ATOMS) if many[0].get(atom) != many[1].get(atom)]
                    self.assertEqual(apart, [(unlike[0], 1)])
            self.assertIsNone(parting_values(one, form_sum(number_form(0), one)))

    def test_errors(self):
        form = ("form", InvalidForm, NOT_FORMS)
        other = ("other", InvalidForm, NOT_FORMS)
        number = ("number", InvalidNumber, bad_for(lambda v: type(v) is int and abs(v) < 9) + [2 ** 31, -2 ** 31 - 1, 1 << 90])
        values = ("values", InvalidValues, bad_for(lambda v: isinstance(v, (list, tuple)) and not v) + [
            [(("name", "x"), 2 ** 31)], [(("name", "x"), True)], [[("name", "x"), 1]], [(("name", "x"), 1), (("name", "x"), 1)],
            [("name", "x")], [(("start", -1), 1)], {("name", "x"): 1}, [(("name", "x"), 1, 1)], [(["name", "x"], 1)]])
        good = (0, ())
        look_at_errors(self, number_form, [("number", 5)], [number])
        look_at_errors(self, atom_form, [("atom", ("start", 5))], [("atom", InvalidAtom, NOT_ATOMS)])
        for call in (form_sum, form_less, parting_values):
            look_at_errors(self, call, [("form", good), ("other", good)], [form, other])
        look_at_errors(self, form_times, [("form", good), ("number", 1)], [form, number])
        look_at_errors(self, form_worth, [("form", good), ("values", [])], [form, values])


if __name__ == "__main__":
    unittest.main()
