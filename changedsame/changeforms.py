"""All changes of stages 6 to 8 by their words and parts alone."""

from changedsame.basics import is_count, is_long_big, is_long_name, is_short_big, is_short_name, word_of
from changedsame.decisions import is_path
from changedsame.shapes import is_order
from changedsame.spots import is_counts
from changedsame.trees import is_expr

# The kinds of what stands behind the word of each change.
CHANGE_PARTS = {
    "rename local": ("place", "count", "name"), "rename value": ("whole value", "name"),
    "rename type": ("whole sort", "name"), "rename constructor": ("whole con", "big"),
    "rename module": ("module", "big"), "move": ("whole value", "module", "count"),
    "replace": ("place", "expr"), "swap": ("place",), "inline": ("place",), "extract": ("place", "place", "name"),
    "share": ("place", "place", "name"), "drop": ("place",), "unfold": ("place",), "fold": ("place", "name"),
    "flip": ("whole value",), "swap rules": ("place", "count"), "drop rule": ("place", "count"),
    "merge rules": ("place", "count"), "split rule": ("place", "count", "path", "con"),
    "turn shape": ("whole con", "order"),
}


def is_change_form(value):
    """Whether any value is a change, by its form."""
    word = word_of(value)
    if word not in CHANGE_PARTS or len(value) != len(CHANGE_PARTS[word]) + 1:
        return False
    return all([is_part(kind, part) for kind, part in zip(CHANGE_PARTS[word], value[1:])])


def is_part(kind, value):
    """Whether any value is what a change has of a kind."""
    if kind == "place":
        return is_counts(value)
    if kind == "count":
        return is_count(value)
    if kind == "name":
        return is_short_name(value)
    if kind in ("big", "module"):
        return is_short_big(value)
    if kind in ("whole value", "whole sort"):
        return is_long_name(value) and "." in value
    if kind == "whole con":
        return is_long_big(value) and "." in value
    if kind == "con":
        return is_long_big(value)
    if kind == "path":
        return is_path(value)
    return is_order(value) if kind == "order" else is_expr(value)
