"""The expressions and functions that give what a name stands for, and these as they are seen elsewhere."""

from changedsame.moves import declared_values, seen_from
from changedsame.rewriting import rewritten_expr
from changedsame.senses import occurrences
from changedsame.sights import meaning, sights
from changedsame.spots import decls_of, found_at
from changedsame.wholes import whole_of


class Function:
    """A function of a program: its parameter, what binds this, and its body at its place."""

    def __init__(self, parameter, binder, body, place):
        self.parameter = parameter
        self.binder = binder
        self.body = body
        self.place = place


def sight_of(program, place):
    """The sight at a place of a resolved program."""
    return [sight for sight in sights(program) if sight[0] == place][0]


def meaning_at(program, place):
    """What the variable at a place means: a local binder, or a whole name."""
    _, expr, env = sight_of(program, place)
    return meaning(expr[1], env)


def decl_of_value(program, name):
    """The tuple (place, declaration) of what declares a value of this whole name."""
    module, _, short = name.partition(".")
    for place, decl in decls_of(program):
        if program[place[0]][1] == module and short in declared_values(decl):
            return (place, decl)
    return None


def function_of(program, binder):
    """The Function of what a variable means, None if no function gives it."""
    if not isinstance(binder, tuple):
        place, decl = decl_of_value(program, binder)
        if decl[0] == "let":
            return function_at(decl[2], place)
        names = [member[0] for member in decl[1]]
        return member_at(decl[1], names.index(binder.partition(".")[2]), place, 0)
    _, place, k = binder
    expr = found_at(program, place)
    if expr is None or expr[0] not in ("let", "rec"):
        return None
    if expr[0] == "let":
        return function_at(expr[2], place + (0,))
    return member_at(expr[1], k, place, len(expr[1])) if k < len(expr[1]) else None


def function_at(expr, place):
    """The Function of an expression at a place, None if it is no fn."""
    return Function(expr[1], ("local", place, 0), expr[2], place + (0,)) if expr[0] == "fn" else None


def member_at(members, k, place, begin):
    """The Function of a member of a rec at a place, the binders of its parameters beginning with a number."""
    return Function(members[k][1], ("local", place, begin + k), members[k][2], place + (k,))


def still_given(program, binder):
    """The tuple (place, expression) of the expression of the let that gives what a name means, None if none does."""
    if not isinstance(binder, tuple):
        place, decl = decl_of_value(program, binder)
        return (place, decl[2]) if decl[0] == "let" else None
    expr = found_at(program, binder[1])
    return (binder[1] + (0,), expr[2]) if expr is not None and expr[0] == "let" else None


def as_seen(program, expr, place, target):
    """An expression at a place, as it is written where the place of another module is; in its own it stays."""
    if place[0] == target[0]:
        return expr
    home = program[target[0]][1]
    used = {}
    for at, k, _, _, told in occurrences(program, whole_of(program)):
        if at[:len(place)] == place and not isinstance(told, tuple):
            used[(at, k)] = seen_from(home, told)
    return rewritten_expr(place, expr, used, {})
