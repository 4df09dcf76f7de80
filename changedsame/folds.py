"""Calls that are unfolded, and expressions that are folded into functions."""

from changedsame.binding import free_in, free_uses
from changedsame.givens import as_seen, function_at, function_of, meaning_at, sight_of
from changedsame.spots import found_at

UNIT = ("unit",)


def unfolded_function(program, place):
    """The Function that the call at a place calls, None if it is given by none."""
    head = found_at(program, place + (0,))
    if head[0] == "var":
        return function_of(program, meaning_at(program, place + (0,)))
    return function_at(head, place + (0,))


def unfolded(program, place):
    """The tuple (new part, origins) of the call at a place that is unfolded."""
    function = unfolded_function(program, place)
    body = as_seen(program, function.body, function.place, place)
    pairs = [(function.binder, ("local", place, 0))]
    origins = [(place + (1,), place + (0,), []), (function.place, place + (1,), pairs)]
    return (("let", function.parameter, found_at(program, place + (1,)), body), origins)


def first_uses(program, place):
    """The list of the tuples (name, binder) of the parameters that a fold at a place has."""
    _, _, env = sight_of(program, place)
    found = []
    for name in free_in(found_at(program, place)):
        if name in env and is_parameter(program, env[name]):
            found.append((name, env[name]))
    return found


def is_parameter(program, binder):
    """Whether a local binder is a parameter, or a name that a pattern binds."""
    expr = found_at(program, binder[1])
    if expr is None or expr[0] != "rec":
        return expr is None or expr[0] != "let"
    return binder[2] >= len(expr[1])


def folded(program, place, name):
    """The tuple (new part, origins) of the expression at a place that is folded into a function of this name."""
    expr = found_at(program, place)
    told = first_uses(program, place)
    names = [parameter for parameter, _ in told]
    if not names:
        inside = [(place, place + (0, 0), [])]
        return (("let", name, ("fn", free_of("x", expr), expr), ("call", ("var", name), UNIT)), inside)
    many = len(names)
    pairs = []
    origins = []
    for k, parameter in enumerate(told):
        pairs.append((parameter[1], ("local", place + (0,) * (k + 1), 0)))
        origins.append((argument_from(program, place, parameter[0]), place + (1,) + (0,) * (many - 1 - k) + (1,), []))
    origins.append((place, place + (0,) * (many + 1), pairs))
    call = ("var", name)
    for parameter in names:
        call = ("call", call, ("var", parameter))
    return (("let", name, with_parameters(names, expr), call), origins)


def argument_from(program, place, name):
    """The place of the first use of a name that is free in what stands at a place."""
    expr = found_at(program, place)
    return place + [steps for steps, told in free_uses((), expr, ()) if told == name][0]


def with_parameters(names, expr):
    """The function with some parameters, one by one, of an expression."""
    for name in names[::-1]:
        expr = ("fn", name, expr)
    return expr


def free_of(name, expr):
    """A name, or it with the first of 0, 1, .. behind it that is not free in an expression, if it is free itself."""
    free = free_in(expr)
    if name not in free:
        return name
    k = 0
    while f"{name}{k}" in free:
        k += 1
    return f"{name}{k}"
