"""Commands of a desk, by their words alone."""

from changedsame.changeforms import is_change_form
from changedsame.errors import InvalidChange
from changedsame.wordings import is_change_wording, is_wording, worded

# What stands behind the word of each command; "text" and "change" are all that stands behind the parts ahead.
COMMANDS = {
    "begin": ("work", "text"), "do": ("work", "change"), "back": ("work",), "on": ("work",),
    "merge": ("work", "work", "work"), "copy": ("work", "work"), "drop-work": ("work",), "undo": (), "redo": (),
    "names": (), "text": ("work",), "changes": ("work",), "decide": ("work", "change"), "at": ("work", "place"),
}

DEEDS = ("begin", "do", "back", "on", "merge", "copy", "drop-work")

LONGEST_WORK = 8


def is_command(value):
    """Whether any value is a string that is a command by its words alone."""
    if not isinstance(value, str):
        return False
    word, rest = command_parts(value)
    if word not in COMMANDS:
        return False
    kinds = COMMANDS[word]
    return len(rest) == len(kinds) and all([is_part_text(kind, part) for kind, part in zip(kinds, rest)])


def command_parts(command):
    """The tuple (word, list of the texts of its parts) of a string."""
    word, blank, rest = command.partition(" ")
    if blank == "":
        return (word, [])
    if word in COMMANDS and COMMANDS[word][-1:] in (("text",), ("change",)):
        return (word, rest.split(" ", 1))
    return (word, rest.split(" "))


def is_part_text(kind, text):
    """Whether a text is what a command has of a kind, by its words alone."""
    if kind == "work":
        return is_work_name(text)
    if kind == "text":
        return text != ""
    return is_change_wording(text) if kind == "change" else is_wording(kind, text)


def is_work_name(text):
    """Whether a text is a name of a work, be it kept or not."""
    if not text.isascii() or not text.isalnum() or len(text) > LONGEST_WORK:
        return False
    return text == text.lower() and not text[0].isdigit()


def is_deed(value):
    """Whether any value is a string that is a deed by its words alone."""
    return is_command(value) and command_parts(value)[0] in DEEDS


def change_text(change):
    """A change as it is written."""
    if not is_change_form(change):
        raise InvalidChange(change)
    return worded(change)
