"""All partitions of open refs, and all lists of bools."""

from changedsame.basics import is_count
from changedsame.errors import InvalidMany, InvalidSorts
from changedsame.straights import is_sorts, names_of

MOST_BITS = 6


def partitions(sorts):
    """The sorted list of all partitions of the open refs."""
    if not is_sorts(sorts):
        raise InvalidSorts(sorts)
    return all_partitions(len(names_of(sorts, "ref")))


def all_partitions(many):
    """The same of so many open refs."""
    rows = [[]]
    for _ in range(many):
        rows = [known + [at] for known in rows for at in range(max(known + [-1]) + 2)]
    return rows


def bit_rows(many):
    """The sorted list of all lists of so many bools."""
    if not is_count(many) or many > MOST_BITS:
        raise InvalidMany(many)
    return all_bits(many)


def all_bits(many):
    """The same of what is known to be right."""
    rows = [[]]
    for _ in range(many):
        rows = [known + [bit] for known in rows for bit in (False, True)]
    return rows
