"""Patterns that fit a program, shapes that none of them covers, and useless ones."""

from changedsame.errors import InvalidPatterns, InvalidWhole
from changedsame.fitting import does_refuse, does_shape_fit, fitting_board
from changedsame.matches import are_patterns, is_plain
from changedsame.plaintrees import Builder, leaves_in, open_shape
from changedsame.wholes import Whole


def board_of(whole, patterns):
    """The board of some patterns that fit a whole program."""
    if not isinstance(whole, Whole):
        raise InvalidWhole(whole)
    board = fitting_board(whole.cons(), patterns) if are_patterns(patterns) else None
    if board is None:
        raise InvalidPatterns(patterns)
    return board


def do_fit(whole, value):
    """Whether any value is a list of one to eight patterns that fit a whole program."""
    if not isinstance(whole, Whole):
        raise InvalidWhole(whole)
    return are_patterns(value) and fitting_board(whole.cons(), value) is not None


def uncovered(whole, patterns):
    """An uncovered shape, None if there is none."""
    builder = Builder(board_of(whole, patterns), patterns)
    builder.tree({}, 0)
    return open_shape(builder)


def is_uncovered(whole, patterns, value):
    """Whether any value is an uncovered shape."""
    board = board_of(whole, patterns)
    if not is_plain(value) or not does_shape_fit(board, value):
        return False
    return all([does_refuse(pattern, value) for pattern in patterns])


def useless(whole, patterns):
    """The rising list of the positions of the useless patterns."""
    board = board_of(whole, patterns)
    found = leaves_in(Builder(board, patterns).tree({}, 0))
    return [position for position in range(len(patterns)) if position not in found]
