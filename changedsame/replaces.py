"""Changes of a part of a program at its place."""

from changedsame.alikes import are_alike_parts
from changedsame.basics import is_integer
from changedsame.errors import InvalidChange, InvalidExpr, InvalidProgram, NotAccepted
from changedsame.finding import is_value
from changedsame.infer import first_clash, is_accepted
from changedsame.lets import early_children
from changedsame.names import are_like
from changedsame.newparts import is_part_change, new_part_of, uses_of_first
from changedsame.opensorts import are_straight_with, can_stand, sorts_at
from changedsame.places import check_place, put_within
from changedsame.spots import children, found_at, inner_at, is_counts
from changedsame.surroundings import is_parting, parting
from changedsame.trees import is_expr, is_program
from changedsame.wholes import whole_of

MOST_EXPRS = 4


def new_part(program, change):
    """("part", the new part) of a change, or ("clash", the first place at which it clashes)."""
    check_change(program, change)
    told = new_part_of(program, change)
    if told[0] == "part":
        put_within(program, change[1], told[1])
    return told


def check_change(program, change):
    """Raises what is wrong with a program, or with a change of one of its parts."""
    if not is_program(program):
        raise InvalidProgram(program)
    if not is_part_change(program, change):
        raise InvalidChange(change)
    if not is_accepted(program):
        raise NotAccepted()


def sorts_there(program, place, exprs):
    """The sorted list of the tuples (name, sort) of what is free in parts at a place; None if a name has no sort."""
    check_place(program, place)
    if not isinstance(exprs, (list, tuple)) or len(exprs) > MOST_EXPRS or not all([is_expr(expr) for expr in exprs]):
        raise InvalidExpr(exprs)
    if not is_accepted(program):
        raise NotAccepted()
    for expr in exprs:
        if not can_stand(program, place, expr):
            raise InvalidExpr(exprs)
    return sorts_at(program, place, exprs)


def decided_straight(program, change):
    """("taken", the changed program), or ("refused", the reason)."""
    told = new_part(program, change)
    if told[0] == "clash":
        return ("refused", told)
    part = found_at(program, change[1])
    result = put_within(program, change[1], told[1])
    position = first_clash(whole_of(result))
    if position is not None:
        return ("refused", ("untyped", position))
    if is_taken_at_once(program, change, part, told[1]):
        return ("taken", result)
    sorts = sorts_at(program, change[1], [told[1]])
    if not are_straight_with(part, told[1], sorts):
        return ("refused", ("beyond", change[1]))
    if are_alike_parts(part, told[1], sorts):
        return ("taken", result)
    return ("refused", ("parts", parting(part, told[1], sorts)))


def is_taken_at_once(program, change, part, new):
    """Whether a change that neither clashes nor is untyped is taken, whatever the part does."""
    return are_like(part, new, (), ()) or is_still_change(change, part) or is_early_change(program, change, part)


def is_still_change(change, part):
    """Whether what is left out, named or exchanged is still."""
    word = change[0]
    if word == "swap":
        return is_value(part[-2]) or is_value(part[-1][-2])
    if word in ("inline", "drop"):
        return is_value(part[-2])
    return word in ("extract", "share") and is_value(inner_at(part, change[2][len(change[1]):]))


def is_early_change(program, change, part):
    """Whether what is named, or put in the place of its name, is worked ahead of all else."""
    word, place = change[:2]
    if word == "extract":
        return is_early(part, change[2][len(place):])
    if word != "inline":
        return False
    uses = uses_of_first(program, place)
    return len(uses) == 1 and is_early(part[3], uses[0][len(place) + 1:])


def is_early(expr, steps):
    """Whether some steps lead to an early child of an expression, all early ones ahead of it being still."""
    if len(steps) != 1 or steps[0] not in early_children(expr):
        return False
    return all([is_value(inner) for inner in children(expr)[:steps[0]]])


def is_refusal(program, change, value):
    """Whether any value is a reason for which the change is refused."""
    told, reason = decided_straight(program, change)
    if told == "taken" or not isinstance(value, tuple) or len(value) != 2 or value[0] != reason[0]:
        return False
    if reason[0] == "parts":
        part, new = found_at(program, change[1]), new_part_of(program, change)[1]
        return is_parting(part, new, sorts_at(program, change[1], [new]), value[1])
    is_right = is_integer(value[1]) if reason[0] == "untyped" else is_counts(value[1])
    return is_right and value == reason
