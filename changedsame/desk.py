"""A desk: works under names, and deeds that are taken back and done again."""

from changedsame.commands import DEEDS, command_parts, is_command, is_deed
from changedsame.deciding import decided
from changedsame.errors import ChangeError, CommandFailed, InvalidCommand, InvalidDeeds, LimitError, MissingError
from changedsame.errors import NameTaken, NothingToRedo, NothingToUndo, StateError, TooMany, UnknownName
from changedsame.helds import begun, merged_helds
from changedsame.places import expr_at
from changedsame.printer import expr_text
from changedsame.wordings import change_worded, place_worded, worded

MOST_NAMES = 12
MOST_DEEDS = 200


class Desk:
    """Works under names; with each deed, done or taken back, what was kept ahead of it or behind it."""

    def __init__(self):
        self.held = {}
        self.done = []
        self.undone = []

    def names(self):
        """The sorted list of the names."""
        return sorted(list(self.held))

    def __len__(self):
        return len(self.done)

    def __getitem__(self, at):
        if not isinstance(at, str) or at not in self.held:
            raise UnknownName(at)
        return self.held[at].layout

    def __contains__(self, x):
        return isinstance(x, str) and x in self.held

    def __iter__(self):
        raise TypeError("a desk is not iterated over")

    def __call__(self, command):
        return self.do(command)

    def do(self, command):
        """Changes the desk, if the command does; the answer."""
        if not is_command(command):
            raise InvalidCommand(command)
        word, parts = command_parts(command)
        if word not in DEEDS:
            return self.answer(word, parts)
        held = done_deed(self.held, word, parts)
        if len(held) > MOST_NAMES:
            raise TooMany("names", MOST_NAMES)
        if len(self.done) == MOST_DEEDS:
            raise TooMany("deeds", MOST_DEEDS)
        self.done.append((command, self.held))
        self.held = held
        self.undone = []
        return "-"

    def answer(self, word, parts):
        """The answer to a command that is no deed; undo and redo change the desk."""
        if word == "undo":
            return self.undo()
        if word == "redo":
            return self.redo()
        if word == "names":
            return listed(" ", self.names())
        held = found(self.held, parts[0])
        if word == "text":
            return held.layout.text()
        if word == "changes":
            return listed("\n", [worded(change) for change in held.changes()])
        if word == "at":
            return expr_text(expr_at(held.program(), place_worded(parts[1])))
        told = decided(held.program(), change_worded(parts[1]))
        return "taken" if told[0] == "taken" else f"refused {told[1][0]}"

    def undo(self):
        """Changes the desk: the last deed is taken back; its line."""
        if not self.done:
            raise NothingToUndo()
        command, held = self.done.pop()
        self.undone.append((command, self.held))
        self.held = held
        return command

    def redo(self):
        """Changes the desk: the last deed that was taken back is done again; its line."""
        if not self.undone:
            raise NothingToRedo()
        command, held = self.undone.pop()
        self.done.append((command, self.held))
        self.held = held
        return command

    def do_all(self, *commands):
        """Changes the desk by all commands, or, if one fails, not at all; the list of the answers."""
        kept = (self.held, list(self.done), list(self.undone))
        answers = []
        for position, command in enumerate(commands):
            try:
                answers.append(self.do(command))
            except (ChangeError, MissingError, StateError, LimitError) as error:
                self.held, self.done, self.undone = kept
                raise CommandFailed(position) from error
        return answers

    def lines(self):
        """The list of the lines of the deeds that are not taken back."""
        return [command for command, _ in self.done]

    def copy(self):
        """Another desk that goes on by itself."""
        other = Desk()
        other.held = self.held
        other.done = list(self.done)
        other.undone = list(self.undone)
        return other

    @classmethod
    def again(cls, lines):
        """A desk that has done the deeds of some lines."""
        if not isinstance(lines, (list, tuple)):
            raise InvalidDeeds(None)
        for position, line in enumerate(lines):
            if not is_deed(line):
                raise InvalidDeeds(position)
        desk = cls()
        for position, line in enumerate(lines):
            try:
                desk.do(line)
            except (ChangeError, MissingError, StateError, LimitError) as error:
                raise CommandFailed(position) from error
        return desk


def listed(between, words):
    """Some words with a text between, "-" for none."""
    return between.join(words) if words else "-"


def found(held, name):
    """The Held of a name."""
    if name not in held:
        raise UnknownName(name)
    return held[name]


def done_deed(held, word, parts):
    """The dict of what is kept behind a deed; that of what is kept ahead stays as it is."""
    name = parts[0]
    if word in ("begin", "merge", "copy") and name in held:
        raise NameTaken(name)
    told = {other: held[other] for other in held}
    if word == "begin":
        told[name] = begun(parts[1])
    elif word == "merge":
        told[name] = merged_helds(found(held, parts[1]), found(held, parts[2]))
    elif word == "copy":
        told[name] = found(held, parts[1])
    elif word == "drop-work":
        found(held, name)
        del told[name]
    elif word == "do":
        told[name] = found(held, name).with_change(change_worded(parts[1]))
    else:
        told[name] = found(held, name).taken_back() if word == "back" else found(held, name).done_again()
    return told
