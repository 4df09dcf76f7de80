"""The limits of trees: how many parts they may have, and how deep they may be."""

from changedsame.measures import measured
from changedsame.nodes import names_unlike, tree_parts

MOST_PARTS = 600
MOST_DEPTH = 40

# A program counts neither as a part nor in the depth; its modules and declarations don't count in the depth.
PROGRAM_PARTS = 1
PROGRAM_DEPTH = 3


def size_of(kind, value):
    """The parts and the depth of a tree as a tuple, None if it is none; it stops counting behind the limit."""
    if kind != "program":
        return measured(tree_parts, kind, value, MOST_PARTS)
    found = measured(tree_parts, kind, value, MOST_PARTS + PROGRAM_PARTS)
    if found is None:
        return None
    return (found[0] - PROGRAM_PARTS, max(0, found[1] - PROGRAM_DEPTH))


def is_tree_of(kind, value):
    """Whether any value is a tree of a kind within the limits."""
    found = size_of(kind, value)
    if found is None or found[0] > MOST_PARTS or found[1] > MOST_DEPTH:
        return False
    return names_unlike(kind, value)
