"""The errors of the interface."""

import unittest

from changedsame import errors

VALUES = (
    "InvalidProgram InvalidExpr InvalidPattern InvalidType InvalidText InvalidName InvalidWhole InvalidInputs "
    "InvalidTicks InvalidMany InvalidPlace InvalidSorts InvalidStraight InvalidChange InvalidPaper InvalidAnswers "
    "InvalidAtom InvalidBinder InvalidBits InvalidCell InvalidChanges InvalidCommand InvalidConstructor InvalidField "
    "InvalidFields InvalidForm InvalidLayout InvalidLoose InvalidNumber InvalidPartition InvalidPath InvalidPatterns "
    "InvalidReplacement InvalidRoots InvalidRule InvalidScheme InvalidSort InvalidSpot InvalidStill InvalidStore "
    "InvalidTree InvalidUse InvalidValue InvalidValues"
).split()

FORMS = [
    ("ChangeError", [(name, ["value"]) for name in VALUES]),
    ("ChangeError", [(name, ["position"]) for name in ("BadStep", "BadText", "InvalidDeeds")]),
    ("ChangeError", [(name, ["name"]) for name in ("Twice", "WrongArgument")]),
    ("MissingError", [("NotBound", ["name"]), ("NotShown", ["name"]), ("UnknownName", ["value"])]),
    ("StateError", [
        ("NotAccepted", []), ("Clash", ["position"]), ("CommandFailed", ["position"]), ("NameTaken", ["name"]),
        ("NotThere", []), ("NothingToRedo", []), ("NothingToUndo", []), ("Refused", ["reason"]), ("UnlikeBegins", []),
    ]),
    ("LimitError", [("TooMany", ["what", "limit"])]),
]


class TestErrors(unittest.TestCase):
    def test_bases(self):
        bases = {"ChangeError": ValueError, "MissingError": LookupError, "StateError": RuntimeError,
                 "LimitError": ArithmeticError}
        for name, base in bases.items():
            self.assertEqual(getattr(errors, name).__bases__, (base,))
        for base, forms in FORMS:
            for name, _ in forms:
                self.assertEqual(getattr(errors, name).__bases__, (getattr(errors, base),), name)

    def test_attributes(self):
        for _, forms in FORMS:
            for name, attributes in forms:
                for value in (None, 3, "x", [1], (1, [2]), {}):
                    values = [value] * len(attributes)
                    for error in (getattr(errors, name)(*values),
                                  getattr(errors, name)(**dict(zip(attributes, values)))):
                        for attribute in attributes:
                            self.assertIs(getattr(error, attribute), value)

    def test_two_attributes_are_apart(self):
        error = errors.TooMany("parts", 600)
        self.assertEqual((error.what, error.limit), ("parts", 600))


if __name__ == "__main__":
    unittest.main()
