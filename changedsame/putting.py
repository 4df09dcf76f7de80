"""Still expressions put for names, so that no binding catches a name."""

from changedsame.binding import changed, changed_pattern, free_in, fresh_name
from changedsame.nodes import pattern_names
from changedsame.spots import children, with_children


def put(expr, name, value):
    """The expression with the value in the place of each free occurrence of the name."""
    return put_below(expr, name, value, free_in(value))


def put_below(expr, name, value, caught):
    """The same, the free names of the value being told by a dict."""
    if name not in free_in(expr):
        return expr
    word = expr[0]
    if word == "var":
        return value
    if word == "fn":
        told, body = own_below(expr[1], expr[2], (), name, caught)
        return ("fn", told, put_below(body, name, value, caught))
    if word == "let":
        first = put_below(expr[2], name, value, caught)
        if expr[1] == name:
            return ("let", name, first, expr[3])
        told, rest = own_below(expr[1], expr[3], (), name, caught)
        return ("let", told, first, put_below(rest, name, value, caught))
    if word == "rec":
        return put_in_rec(expr, name, value, caught)
    if word in ("match", "try"):
        rules = [put_in_rule(rule, name, value, caught) for rule in expr[2]]
        return (word, put_below(expr[1], name, value, caught), tuple(rules))
    return with_children(expr, [put_below(part, name, value, caught) for part in children(expr)])


def own_below(bound, body, others, name, caught):
    """A bound name and its expression, the name being another one if it would catch a name of the value."""
    if bound == name or bound not in caught or name not in free_in(body):
        return (bound, body)
    told = fresh_name(name, bound, [body], list(others) + list(caught))
    return (told, changed(body, bound, told))


def put_in_rule(rule, name, value, caught):
    pattern, body = rule
    if name in pattern_names(pattern):
        return rule
    for bound in pattern_names(pattern):
        told, body = own_below(bound, body, pattern_names(pattern), name, caught)
        pattern = changed_pattern(pattern, bound, told)
    return (pattern, put_below(body, name, value, caught))


def put_in_rec(expr, name, value, caught):
    """A rec in which the name is free, so that none of its members has it."""
    _, members, rest = expr
    for k in range(len(members)):
        members, rest = own_member(members, rest, k, name, caught)
    names = [member[0] for member in members]
    told = []
    for own, parameter, body in members:
        parameter, body = own_below(parameter, body, names, name, caught)
        told.append((own, parameter, body if parameter == name else put_below(body, name, value, caught)))
    return ("rec", tuple(told), put_below(rest, name, value, caught))


def own_member(members, rest, k, name, caught):
    """The members and the last part of a rec, the member k having another name if it would catch one of the value."""
    old = members[k][0]
    reaching = [body for _, parameter, body in members if parameter != name] + [rest]
    if old not in caught or not [part for part in reaching if name in free_in(part)]:
        return (members, rest)
    bodies = [member[2] for member in members]
    new = fresh_name(name, old, bodies + [rest], [member[0] for member in members] + list(caught))
    names = [new if member[0] == old else member[0] for member in members]
    told = []
    for own, member in zip(names, members):
        told.append((own,) + renamed_below(member[1], member[2], names, old, new))
    return (tuple(told), changed(rest, old, new))


def renamed_below(parameter, body, names, old, new):
    """A member's parameter and body, in which a member gets another name; the parameter may stand in its way."""
    if parameter == old:
        return (parameter, body)
    if parameter == new and old in free_in(body):
        told = fresh_name(old, new, [body], names)
        return (told, changed(changed(body, new, told), old, new))
    return (parameter, changed(body, old, new))
