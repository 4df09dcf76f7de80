"""Functions of two parameters that take them the other way round."""

from changedsame.finding import is_value
from changedsame.folds import free_of
from changedsame.givens import decl_of_value
from changedsame.senses import senses
from changedsame.spots import children, decl_exprs, decls_of, found_at, with_children, with_decl, with_decl_exprs
from changedsame.wholes import whole_of


def two_parameters(program, name):
    """The tuple of both parameters of the value of a whole name, None if it is no function of two."""
    _, decl = decl_of_value(program, name)
    if decl[0] == "rec":
        told = [member[1:] for member in decl[1] if member[0] == name.partition(".")[2]][0]
    else:
        told = decl[2][1:] if decl[2][0] == "fn" else (None, decl[2])
    return (told[0], told[1][1]) if told[0] is not None and told[1][0] == "fn" else None


def is_flip(program, value):
    """Whether any value is the whole name of a function of two parameters."""
    names = whole_of(program).value_names()
    return isinstance(value, str) and value in names and two_parameters(program, value) is not None


def uses_of(program, name):
    """The list of the places of the uses of a value, rising."""
    return [place for place, kind, told in senses(program, whole_of(program)) if kind == "value" and told == name]


def call_of_two(program, place):
    """The place of the call of two whose function is the use at a place, None if it is no such one."""
    if place[-2:] != (0, 0):
        return None
    outer, inner = found_at(program, place[:-2]), found_at(program, place[:-1])
    return place[:-2] if outer is not None and inner is not None and outer[0] == inner[0] == "call" else None


def flip_fault(program, name):
    """The reason for which a flip is refused by its parameters, or by a use; None if there is none."""
    first, last = two_parameters(program, name)
    if first == last:
        return ("fault", "twice", first)
    for place in uses_of(program, name):
        if call_of_two(program, place) is None:
            return ("use", place)
    return None


def both_work(call):
    """Whether neither argument of a call of two is still."""
    return not is_value(call[1][2]) and not is_value(call[2])


def flipped(program, name):
    """The program with a function's parameters, and the arguments of its calls of two, the other way round."""
    calls = {call_of_two(program, place): True for place in uses_of(program, name)}
    home, at = decl_of_value(program, name)
    result = program
    for place, decl in decls_of(program):
        exprs = [flipped_expr(calls, place + steps, expr) for steps, expr in decl_exprs(decl)]
        result = with_decl(result, place, with_decl_exprs(decl, exprs))
    return with_decl(result, home, turned_decl(result[home[0]][3][home[1]], name.partition(".")[2]))


def flipped_expr(calls, place, expr):
    """An expression at a place with the arguments of some calls of two, by their places, the other way round."""
    inside = [flipped_expr(calls, place + (k,), part) for k, part in enumerate(children(expr))]
    told = with_children(expr, inside)
    if place not in calls:
        return told
    _, (_, head, first), last = told
    if not both_work(told):
        return ("call", ("call", head, last), first)
    name = free_of("v", expr)
    return ("let", name, first, ("call", ("call", head, last), ("var", name)))


def turned_decl(decl, name):
    """A declaration with the parameters of the function of a name the other way round."""
    if decl[0] == "let":
        return ("let", name, ("fn", decl[2][2][1], ("fn", decl[2][1], decl[2][2][2])))
    members = []
    for member in decl[1]:
        told, first, body = member
        members.append((told, body[1], ("fn", first, body[2])) if told == name else member)
    return ("rec", tuple(members))
