"""Places of expressions in programs."""

from changedsame.errors import InvalidExpr, InvalidPlace, InvalidProgram, TooMany
from changedsame.sizes import MOST_DEPTH, MOST_PARTS, size_of
from changedsame.spots import all_exprs, found_at, outermost, with_expr_at
from changedsame.trees import is_expr, is_program


def places(program):
    """The sorted list of all places of a program."""
    if not is_program(program):
        raise InvalidProgram(program)
    return [place for place, _ in all_exprs(program)]


def is_place(program, value):
    """Whether any value is a place of the program."""
    if not is_program(program):
        raise InvalidProgram(program)
    return found_at(program, value) is not None


def check_place(program, place):
    """Raises the error of what is no place of a program, or of no program."""
    if not is_place(program, place):
        raise InvalidPlace(place)


def expr_at(program, place):
    """The expression at a place."""
    check_place(program, place)
    return found_at(program, place)


def put_at(program, place, expr):
    """The program with another expression at a place."""
    check_place(program, place)
    if not is_expr(expr):
        raise InvalidExpr(expr)
    return put_within(program, place, expr)


def put_within(program, place, expr):
    """The same of what is known to be right; raises what makes it too large."""
    told = with_expr_at(program, place, expr)
    check_size(told)
    return told


def check_size(program):
    """Raises the error of what would be a program if it were not too large."""
    parts, depth = size_of("program", program)
    if parts > MOST_PARTS:
        raise TooMany("parts", MOST_PARTS)
    if depth > MOST_DEPTH:
        raise TooMany("depth", MOST_DEPTH)


def holders(program, place):
    """The list of the places of the expressions within which a place stands, from outside in."""
    check_place(program, place)
    return [place[:many] for many in range(len(outermost(program, place)), len(place))]
