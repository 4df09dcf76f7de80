"""The sorts that the free names of parts have at a place of a program."""

from changedsame.alikes import are_alike_parts
from changedsame.binding import free_uses
from changedsame.bindings import types_found
from changedsame.infer import found, is_accepted
from changedsame.places import put_within
from changedsame.spots import found_at
from changedsame.straights import is_sorts, is_straight, own_sort
from changedsame.wholes import whole_of

# Each sort, and the type of what has it.
SORT_TYPES = (
    ("int", ("int",)), ("bool", ("bool",)), ("ref", ("ref", ("int",))), ("fun", ("fun", ("int",), ("int",))),
    ("test", ("fun", ("int",), ("bool",))),
)


def sort_named(told):
    """The sort of a type, None if it has none."""
    for sort, wanted in SORT_TYPES:
        if told == wanted:
            return sort
    return None


def open_names(program, place):
    """The list of the tuples (name, sort or None) of the uses of free names in what stands at a place."""
    uses = free_uses(place, found_at(program, place), ())
    finder = found(whole_of(program))[0]
    types = types_found(program, finder, [at for at, _ in uses])
    return [(use[1], None if "." in use[1] else sort_named(told)) for use, told in zip(uses, types)]


def joined_sorts(rows):
    """The sorted list of the tuples (name, sort) of some lists of such, None if a name has none, or unlike ones."""
    table = {}
    for row in rows:
        for name, sort in row:
            if sort is None or table.setdefault(name, sort) != sort:
                return None
    return sorted([(name, table[name]) for name in table])


def sorts_at(program, place, exprs):
    """The sorts of all names that are free in the part at a place or in expressions that can stand there, or None."""
    programs = [program] + [put_within(program, place, expr) for expr in exprs]
    return joined_sorts([open_names(told, place) for told in programs])


def can_stand(program, place, expr):
    """Whether a program with this expression at a place is accepted; raises what makes it too large."""
    return is_accepted(put_within(program, place, expr))


def are_rows_alike(program, place, more):
    """Whether the part at a place, and an expression that can stand there, are straight and alike everywhere."""
    part = found_at(program, place)
    sorts = sorts_at(program, place, [more])
    return are_straight_with(part, more, sorts) and are_alike_parts(part, more, sorts)


def are_straight_with(part, other, sorts):
    """Whether both parts are straight, and of one sort, with these sorts, None if some name has none."""
    if sorts is None or not is_sorts(sorts) or not is_straight(part, sorts) or not is_straight(other, sorts):
        return False
    return own_sort(part, sorts) == own_sort(other, sorts)
