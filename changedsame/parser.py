"""From a text to a program, an expression, a type."""

from changedsame.cursors import Cursor
from changedsame.errors import TooMany
from changedsame.readdecls import read_program
from changedsame.readexprs import read_expr
from changedsame.readtypes import read_written
from changedsame.sizes import MOST_DEPTH, MOST_PARTS, size_of


def parse(text):
    """The program that is read."""
    cursor = Cursor(text)
    return ended(cursor, "program", read_program(cursor))


def parse_expr(text):
    """The expression that is read."""
    cursor = Cursor(text)
    return ended(cursor, "expr", read_expr(cursor))


def parse_type(text):
    """The type that is read."""
    cursor = Cursor(text)
    return ended(cursor, "written", read_written(cursor))


def ended(cursor, kind, tree):
    """What was read, behind which nothing may stand, within the limits."""
    if cursor.token_kind() != "end":
        cursor.stop()
    parts, depth = size_of(kind, tree)
    if parts > MOST_PARTS:
        raise TooMany("parts", MOST_PARTS)
    if depth > MOST_DEPTH:
        raise TooMany("depth", MOST_DEPTH)
    return tree
