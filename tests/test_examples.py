"""Each example of the interface, as DOC.md has it."""

import doctest
import pathlib
import unittest

EXAMPLES = pathlib.Path(__file__).resolve().parent / "examples.txt"


class TestExamples(unittest.TestCase):
    def test_examples(self):
        failed, tried = doctest.testfile(str(EXAMPLES), module_relative=False)
        self.assertEqual(failed, 0)
        self.assertGreaterEqual(tried, 100)


if __name__ == "__main__":
    unittest.main()
