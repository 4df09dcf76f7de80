"""Works: a program and a row of changes that were taken, to be taken back and done again."""

from changedsame.basics import is_count
from changedsame.changeforms import is_change_form
from changedsame.deciding import outcome
from changedsame.errors import InvalidChange, InvalidChanges, InvalidMany, InvalidProgram, NothingToRedo, NothingToUndo
from changedsame.errors import TooMany
from changedsame.infer import check_accepted
from changedsame.trees import is_program

MOST_CHANGES = 100


class Work:
    """A begin and a row: tuples (change, the program behind it, its paper), and those that were taken back."""

    def __init__(self, program):
        check_accepted(program)
        self.first = program
        self.row = []
        self.undone = []

    def apply(self, change):
        """Changes the work, if the change is taken of the newest program: it stands last in the row."""
        if not is_change_form(change):
            raise InvalidChange(change)
        told = outcome(self.newest(), change)
        if told[0] == "taken":
            if len(self.row) == MOST_CHANGES:
                raise TooMany("changes", MOST_CHANGES)
            self.row.append((change, told[1], list(told[2])))
            self.undone = []
        return told

    def undo(self):
        """Changes the work: the last change is taken back, and told."""
        if not self.row:
            raise NothingToUndo()
        self.undone.append(self.row.pop())
        return self.undone[-1][0]

    def redo(self):
        """Changes the work: the last change that was taken back is done again, and told."""
        if not self.undone:
            raise NothingToRedo()
        self.row.append(self.undone.pop())
        return self.row[-1][0]

    def begin(self):
        """The program with which the work was begun."""
        return self.first

    def newest(self):
        """The program to which the row leads."""
        return self.row[-1][1] if self.row else self.first

    def changes(self):
        """The list of the changes in the row."""
        return [done[0] for done in self.row]

    def at(self, many):
        """The program behind so many changes."""
        if not is_count(many) or many > len(self.row):
            raise InvalidMany(many)
        return self.row[many - 1][1] if many else self.first

    def paper(self):
        """The list of the steps of all changes."""
        return [step for done in self.row for step in done[2]]

    def copy(self):
        """Another work that goes on by itself."""
        other = Work(self.first)
        other.row = list(self.row)
        other.undone = list(self.undone)
        return other


def replayed(program, changes):
    """The work of a program with these changes."""
    if not is_program(program):
        raise InvalidProgram(program)
    if not are_changes(changes, MOST_CHANGES):
        raise InvalidChanges(changes)
    work = Work(program)
    if not does_take_all(work, changes):
        raise InvalidChanges(changes)
    return work


def are_changes(value, most):
    """Whether any value is a list of at most so many changes, taken or not."""
    if not isinstance(value, (list, tuple)) or len(value) > most:
        return False
    return all([is_change_form(change) for change in value])


def does_take_all(work, changes):
    """Whether some changes are taken, one behind the other; the work is changed by those ahead of the first refused."""
    for change in changes:
        if work.apply(change)[0] == "refused":
            return False
    return True
