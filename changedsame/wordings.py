"""Changes and their parts as they are written in commands."""

from changedsame.basics import is_long_big, is_long_name, is_short_big, is_short_name
from changedsame.changeforms import CHANGE_PARTS
from changedsame.parser import parse_expr
from changedsame.printer import expr_text

# The word of each change as it is written, in the sequence of the tables.
CHANGE_WORDS = {
    "rename-local": "rename local", "rename-value": "rename value", "rename-type": "rename type",
    "rename-con": "rename constructor", "rename-module": "rename module", "move": "move", "replace": "replace",
    "swap": "swap", "inline": "inline", "extract": "extract", "share": "share", "drop": "drop", "unfold": "unfold",
    "fold": "fold", "flip": "flip", "swap-rules": "swap rules", "drop-rule": "drop rule", "split-rule": "split rule",
    "merge-rules": "merge rules", "turn-shape": "turn shape",
}

LEAST_ORDER = 2
MOST_ORDER = 4
MOST_DIGITS = 2


def is_change_wording(text):
    """Whether a text is a change by its words alone."""
    word, _, rest = text.partition(" ")
    if word not in CHANGE_WORDS:
        return False
    kinds = CHANGE_PARTS[CHANGE_WORDS[word]]
    parts = split_parts(kinds, rest)
    return len(parts) == len(kinds) and all([is_wording(kind, part) for kind, part in zip(kinds, parts)])


def split_parts(kinds, rest):
    """The list of the texts of a change's parts; an expression is all that stands behind the parts ahead."""
    return rest.split(" ", len(kinds) - 1) if kinds[-1] == "expr" else rest.split(" ")


def is_wording(kind, text):
    """Whether a text is what a change has of a kind, by its words alone."""
    if kind == "place":
        return all([is_count_text(part) for part in text.split(".")])
    if kind == "count":
        return is_count_text(text)
    if kind == "name":
        return is_short_name(text)
    if kind in ("big", "module"):
        return is_short_big(text)
    if kind in ("whole value", "whole sort"):
        return is_long_name(text) and "." in text
    if kind == "whole con":
        return is_long_big(text) and "." in text
    if kind == "con":
        return is_long_big(text)
    if kind == "path":
        return text == "-" or all([is_count_text(part) or is_long_big(part) for part in text.split("/")])
    if kind == "order":
        parts = text.split(",")
        return LEAST_ORDER <= len(parts) <= MOST_ORDER and all([is_count_text(part) for part in parts])
    return text != ""


def is_count_text(text):
    """Whether a text is a count of at most two digits, without needless noughts."""
    if not text.isascii() or not text.isdigit() or len(text) > MOST_DIGITS:
        return False
    return text == "0" or text[0] != "0"


def change_worded(text):
    """The change of a text that is one by its words; raises what is wrong with the expression in it."""
    word, _, rest = text.partition(" ")
    kinds = CHANGE_PARTS[CHANGE_WORDS[word]]
    parts = [part_worded(kind, part) for kind, part in zip(kinds, split_parts(kinds, rest))]
    return (CHANGE_WORDS[word],) + tuple(parts)


def part_worded(kind, text):
    """A part of a change that a text tells."""
    if kind == "place":
        return place_worded(text)
    if kind == "count":
        return int(text)
    if kind == "path":
        return () if text == "-" else tuple([step_worded(part) for part in text.split("/")])
    if kind == "order":
        return tuple([int(part) for part in text.split(",")])
    return parse_expr(text) if kind == "expr" else text


def place_worded(text):
    """The place that a text tells."""
    return tuple([int(part) for part in text.split(".")])


def step_worded(text):
    """A step of a path that a text tells."""
    return int(text) if text.isdigit() else text


def worded(change):
    """A change as it is written."""
    words = [word for word in CHANGE_WORDS if CHANGE_WORDS[word] == change[0]]
    for kind, part in zip(CHANGE_PARTS[change[0]], change[1:]):
        words.append(part_text(kind, part))
    return " ".join(words)


def part_text(kind, part):
    """A part of a change as it is written."""
    if kind == "place":
        return ".".join([str(step) for step in part])
    if kind == "count":
        return str(part)
    if kind == "path":
        return "/".join([str(step) for step in part]) if part else "-"
    if kind == "order":
        return ",".join([str(step) for step in part])
    return expr_text(part) if kind == "expr" else part
