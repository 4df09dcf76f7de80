"""Functions that are unfolded, folded, or take their two parameters the other way round."""

from changedsame.basics import is_short_name, word_of
from changedsame.errors import InvalidChange, InvalidPlace, InvalidUse
from changedsame.flips import flip_fault, flipped, is_flip
from changedsame.folds import first_uses, folded, unfolded, unfolded_function
from changedsame.givens import as_seen, function_of, meaning_at
from changedsame.infer import check_accepted, first_clash
from changedsame.origins import clash_behind
from changedsame.places import check_size
from changedsame.spots import found_at, with_expr_at
from changedsame.verdicts import fault_of
from changedsame.wholes import whole_of


def is_function_change(program, value):
    """Whether any value is a change of functions that fits the program."""
    check_accepted(program)
    return does_fit(program, value)


def does_fit(program, value):
    """The same of a program that is known to be accepted."""
    word = word_of(value)
    if word == "flip":
        return len(value) == 2 and is_flip(program, value[1])
    if word == "fold":
        return len(value) == 3 and found_at(program, value[1]) is not None and is_short_name(value[2])
    if word != "unfold" or len(value) != 2:
        return False
    expr = found_at(program, value[1])
    return expr is not None and expr[0] == "call" and unfolded_function(program, value[1]) is not None


def check_change(program, change):
    """Raises what is wrong with a program, or with a change of functions."""
    check_accepted(program)
    if not does_fit(program, change):
        raise InvalidChange(change)


def function_plain(program, change):
    """The plain result of a change of functions."""
    check_change(program, change)
    return plain_result(program, change)[0]


def plain_result(program, change):
    """The tuple (the plain result, the origins of what was put there) of a change that fits."""
    word = change[0]
    if word == "flip":
        result, origins = flipped(program, change[1]), []
    else:
        part, origins = unfolded(program, change[1]) if word == "unfold" else folded(program, change[1], change[2])
        result = with_expr_at(program, change[1], part)
    check_size(result)
    return (result, origins)


def given_function(program, place):
    """The tuple (parameter, body) of the function that gives the name at a place, None if there is none."""
    check_accepted(program)
    expr = found_at(program, place)
    if expr is None:
        raise InvalidPlace(place)
    if expr[0] != "var":
        raise InvalidUse(place)
    function = function_of(program, meaning_at(program, place))
    if function is None:
        return None
    return (function.parameter, as_seen(program, function.body, function.place, place))


def parameters_at(program, place):
    """The list of the parameters that a fold at a place would have."""
    check_accepted(program)
    if found_at(program, place) is None:
        raise InvalidPlace(place)
    return [name for name, _ in first_uses(program, place)]


def decided_function(program, change):
    """("taken", the plain result), or ("refused", the reason)."""
    check_change(program, change)
    result, origins = plain_result(program, change)
    reason = flip_fault(program, change[1]) if change[0] == "flip" else None
    if reason is None:
        reason = fault_of(result)
    if reason is None:
        reason = clash_behind(program, origins, result)
    if reason is not None:
        return ("refused", reason)
    position = first_clash(whole_of(result))
    return ("taken", result) if position is None else ("refused", ("untyped", position))
