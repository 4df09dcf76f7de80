"""What a desk keeps under a name: a work with the layouts of its row. A Held never changes once it is made."""

from changedsame.errors import NotAccepted, Refused, UnlikeBegins
from changedsame.infer import is_accepted
from changedsame.layouts import Layout, written_anew
from changedsame.merging import merged
from changedsame.works import Work


class Held:
    """A work, the layouts behind its changes, those that were taken back too, and the layout of its newest program."""

    def __init__(self, work, layouts):
        self.work = work
        self.layouts = layouts
        self.layout = layouts[len(work.changes())]

    def program(self):
        """The newest program."""
        return self.work.newest()

    def changes(self):
        """The list of the changes in the row."""
        return self.work.changes()

    def with_change(self, change):
        """The Held with a further change, if it is taken."""
        work = self.work.copy()
        told = work.apply(change)
        if told[0] == "refused":
            raise Refused(told[1])
        many = len(self.work.changes())
        return Held(work, self.layouts[:many + 1] + [written_anew(self.layout, told[1])])

    def taken_back(self):
        """The Held without the last change."""
        work = self.work.copy()
        work.undo()
        return Held(work, self.layouts)

    def done_again(self):
        """The Held with the last change that was taken back."""
        work = self.work.copy()
        work.redo()
        return Held(work, self.layouts)


def begun(text):
    """The Held of a text, without changes."""
    layout = Layout(text)
    if not is_accepted(layout.program()):
        raise NotAccepted()
    return Held(Work(layout.program()), [layout])


def merged_helds(held, other):
    """The Held of the text with which the first was begun, with the changes of both."""
    if held.work.begin() != other.work.begin():
        raise UnlikeBegins()
    told = merged(held.work.begin(), held.changes(), other.changes())
    if told[0] == "apart":
        raise Refused(told)
    result = Held(Work(held.work.begin()), held.layouts[:1])
    for change in told[2]:
        result = result.with_change(change)
    return result
