"""Works: rows of changes that are taken, taken back and done again: [281]."""

import random
import unittest

from changing import some_changes
from checking import ODD, bad_for, error_of, look_at_errors
from running import parting_run
from typed import Typed

from changedsame.checker import led_by
from changedsame.deciding import decided, is_change
from changedsame.errors import InvalidChange, InvalidChanges, InvalidMany, InvalidProgram, NotAccepted, NothingToRedo, NothingToUndo, TooMany
from changedsame.infer import is_accepted
from changedsame.parser import parse
from changedsame.trees import is_program
from changedsame.works import Work, replayed

ONE = parse("module M = let x = 1 do tell(x + x) end")
NAMES = ["y", "z", "w", "x"]


def rename(old, new):
    return ("rename value", f"M.{old}", new)


def state_of(work):
    return (work.begin(), work.newest(), work.changes(), work.paper(), [work.at(k) for k in range(len(work.changes()) + 1)])


class TestWork(unittest.TestCase):
    def test_rows(self):
        work = Work(ONE)
        self.assertEqual(state_of(work), (ONE, ONE, [], [], [ONE]))
        told = work.apply(rename("x", "y"))
        self.assertEqual(told, decided(ONE, rename("x", "y")))
        far = told[1]
        self.assertEqual(state_of(work), (ONE, far, [rename("x", "y")], told[2], [ONE, far]))
        again = work.apply(("inline", (0, 1)))
        self.assertEqual(again, ("refused", ("place",)))
        self.assertEqual(state_of(work), (ONE, far, [rename("x", "y")], told[2], [ONE, far]))
        more = work.apply(("extract", (0, 1), (0, 1, 0, 0), "k"))
        self.assertEqual(more[0], "taken")
        self.assertEqual(work.changes(), [rename("x", "y"), ("extract", (0, 1), (0, 1, 0, 0), "k")])
        self.assertEqual(work.paper(), told[2] + more[2])
        self.assertEqual(work.at(1), far)
        self.assertEqual(work.undo(), ("extract", (0, 1), (0, 1, 0, 0), "k"))
        self.assertEqual(state_of(work), (ONE, far, [rename("x", "y")], told[2], [ONE, far]))
        self.assertEqual(work.undo(), rename("x", "y"))
        self.assertEqual(state_of(work), (ONE, ONE, [], [], [ONE]))
        self.assertIs(type(error_of(work.undo)), NothingToUndo)
        self.assertEqual(work.redo(), rename("x", "y"))
        self.assertEqual(work.redo(), ("extract", (0, 1), (0, 1, 0, 0), "k"))
        self.assertEqual(work.newest(), more[1])
        self.assertIs(type(error_of(work.redo)), NothingToRedo)

    def test_what_is_not_done_again(self):
        work = Work(ONE)
        work.apply(rename("x", "y"))
        work.undo()
        self.assertEqual(work.apply(("swap", (0, 1)))[0], "refused")
        self.assertIs(type(error_of(work.apply, 5)), InvalidChange)
        self.assertEqual(work.redo(), rename("x", "y"))
        work.undo()
        work.apply(rename("x", "z"))
        self.assertIs(type(error_of(work.redo)), NothingToRedo)
        self.assertEqual(work.changes(), [rename("x", "z")])

    def test_what_is_told_is_new(self):
        work = Work(ONE)
        told = work.apply(rename("x", "y"))
        told[2].append("more")
        work.changes().append("more")
        work.paper().clear()
        self.assertEqual((work.changes(), work.paper()), ([rename("x", "y")], [("names", (), rename("x", "y"))]))

    def test_copy(self):
        work = Work(ONE)
        work.apply(rename("x", "y"))
        work.apply(rename("y", "z"))
        work.undo()
        other = work.copy()
        self.assertIsInstance(other, Work)
        self.assertEqual(state_of(other), state_of(work))
        self.assertEqual(other.redo(), rename("y", "z"))
        self.assertEqual(len(work.changes()), 1)
        work.apply(rename("y", "w"))
        self.assertEqual(other.changes(), [rename("x", "y"), rename("y", "z")])
        self.assertIs(type(error_of(work.redo)), NothingToRedo)
        other.undo()
        other.undo()
        self.assertEqual(work.changes(), [rename("x", "y"), rename("y", "w")])

    def test_a_hundred_changes(self):
        work = Work(ONE)
        row = []
        for k in range(100):
            row.append(rename(NAMES[(k + 3) % 4], NAMES[k % 4]))
            self.assertEqual(work.apply(row[-1])[0], "taken")
        before = state_of(work)
        error = error_of(work.apply, rename("x", "y"))
        self.assertEqual((type(error), error.what, error.limit), (TooMany, "changes", 100))
        self.assertEqual(work.apply(rename("q", "y")), ("refused", ("place",)))
        self.assertEqual(state_of(work), before)
        self.assertEqual(work.at(100), ONE)
        work.undo()
        self.assertEqual(work.redo(), row[-1])
        self.assertEqual(replayed(ONE, row).newest(), ONE)
        error = error_of(replayed, ONE, row + [rename("x", "y")])
        self.assertEqual((type(error), error.value), (InvalidChanges, row + [rename("x", "y")]))
        work.undo()
        self.assertEqual(work.apply(rename("w", "q"))[0], "taken")

    def test_errors(self):
        look_at_errors(self, Work, [("program", ONE)], [("program", InvalidProgram, bad_for(is_program))])
        self.assertIs(type(error_of(Work, parse("module M = do 1 + true end"))), NotAccepted)
        work = Work(ONE)
        look_at_errors(self, work.apply, [("change", ("swap", (0, 0)))], [("change", InvalidChange, bad_for(is_change))])
        look_at_errors(self, work.at, [("many", 0)], [("many", InvalidMany, [value for value in ODD if value != 0 or isinstance(value, bool)] + [1])])
        work.apply(rename("x", "y"))
        look_at_errors(self, work.at, [("many", 1)], [("many", InvalidMany, [2, -1, True, None])])
        look_at_errors(self, replayed, [("program", ONE), ("changes", [rename("x", "y")])], [
            ("program", InvalidProgram, bad_for(is_program)),
            ("changes", InvalidChanges, [value for value in ODD if value not in ([], ())] + [[rename("x", "y"), 1], [rename("x", "y"), rename("x", "y")], [("swap", (0, 1))], rename("x", "y"), {0: rename("x", "y")}])])
        bad = parse("module M = do 1 + true end")
        self.assertIs(type(error_of(replayed, bad, [("swap", (0, 1))])), NotAccepted)
        self.assertIs(type(error_of(replayed, bad, [1])), InvalidChanges)

    def test_replayed(self):
        row = (rename("x", "y"), ("extract", (0, 1), (0, 1, 0, 0), "k"))
        work = keeps_work(replayed, ONE, row)
        self.assertEqual(work.changes(), list(row))
        self.assertEqual(replayed(ONE, []).changes(), [])
        self.assertIs(type(error_of(work.redo)), NothingToRedo)
        self.assertEqual(work.undo(), row[1])

    def test_random_rows(self):
        done = 0
        for seed in range(40):
            rand = random.Random(seed)
            program = Typed(seed).program(3, 2, 2)
            if not is_accepted(program):
                continue
            work = Work(program)
            states = [state_of(work)]
            for change in some_changes(program, rand, 10):
                before = state_of(work)
                if work.apply(change)[0] == "taken":
                    states.append(state_of(work))
                else:
                    self.assertEqual(state_of(work), before)
            for k in range(len(states) - 2, -1, -1):
                work.undo()
                self.assertEqual(state_of(work), states[k])
            for k in range(1, len(states)):
                work.redo()
                self.assertEqual(state_of(work), states[k])
            self.assertEqual(led_by(program, work.paper()), (work.newest(), None))
            self.assertEqual(state_of(replayed(program, work.changes())), states[-1])
            if not [change for change in work.changes() if change[0] in ("rename module", "rename constructor")]:
                self.assertIsNone(parting_run(program, work.newest(), rand, tries=1))
            done += len(states) - 1
        self.assertGreater(done, 60)


def keeps_work(call, program, row):
    keep = (program, tuple(row))
    work = call(program, row)
    assert (program, tuple(row)) == keep
    return work


if __name__ == "__main__":
    unittest.main()
