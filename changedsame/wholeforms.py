"""Expressions, patterns and types with whole names in the place of the names that are written."""

from changedsame.errors import NotBound
from changedsame.nodes import pattern_names
from changedsame.scopes import whole_con, whole_sort, whole_value


def whole_written(scope, written, parameters):
    """A type with whole names, of a declaration with some parameters."""
    word = written[0]
    if word == "param":
        if written[1] not in parameters:
            raise NotBound(written[1])
        return written
    if word == "data":
        name = whole_sort(scope, written[1], len(written[2]))
        return ("data", name, tuple([whole_written(scope, part, parameters) for part in written[2]]))
    if word == "tuple":
        return ("tuple", tuple([whole_written(scope, part, parameters) for part in written[1]]))
    return (word,) + tuple([whole_written(scope, part, parameters) for part in written[1:]])


def whole_pattern(scope, pattern):
    """A pattern with whole names."""
    if pattern[0] == "con":
        name = whole_con(scope, pattern[1], pattern[2] is not None)
        return ("con", name, None if pattern[2] is None else whole_pattern(scope, pattern[2]))
    if pattern[0] == "tuple":
        return ("tuple", tuple([whole_pattern(scope, part) for part in pattern[1]]))
    return pattern


def whole_expr(scope, expr, bound):
    """An expression with whole names and labels, around which some names are bound."""
    action = FORMS[expr[0]]
    return action(scope, expr, bound)


def whole_lone(scope, expr, bound):
    return expr


def whole_var(scope, expr, bound):
    return expr if expr[1] in bound else ("var", whole_value(scope, expr[1]))


def whole_made(scope, expr, bound):
    name = whole_con(scope, expr[1], expr[2] is not None)
    return ("con", name, None if expr[2] is None else whole_expr(scope, expr[2], bound))


def whole_fn(scope, expr, bound):
    label = scope.take_label()
    return ("fn", label, expr[1], whole_expr(scope, expr[2], bound + (expr[1],)))


def whole_parts(scope, expr, bound):
    return (expr[0],) + tuple([whole_expr(scope, part, bound) for part in expr[1:]])


def whole_let(scope, expr, bound):
    first = whole_expr(scope, expr[2], bound)
    return ("let", expr[1], first, whole_expr(scope, expr[3], bound + (expr[1],)))


def whole_rec(scope, expr, bound):
    inner = bound + tuple([member[0] for member in expr[1]])
    members = [whole_member(scope, member, member[0], inner) for member in expr[1]]
    return ("rec", tuple(members), whole_expr(scope, expr[2], inner))


def whole_member(scope, member, name, bound):
    """A function of a rec, with its label and the name that it gets."""
    label = scope.take_label()
    return (label, name, member[1], whole_expr(scope, member[2], bound + (member[1],)))


def whole_rules(scope, expr, bound):
    first = whole_expr(scope, expr[1], bound)
    rules = []
    for pattern, body in expr[2]:
        names = tuple(pattern_names(pattern))
        whole = whole_pattern(scope, pattern)
        rules.append((whole, whole_expr(scope, body, bound + names)))
    return (expr[0], first, tuple(rules))


def whole_tuple(scope, expr, bound):
    return ("tuple", tuple([whole_expr(scope, part, bound) for part in expr[1]]))


def whole_prim(scope, expr, bound):
    return ("prim", expr[1], tuple([whole_expr(scope, part, bound) for part in expr[2]]))


FORMS = {
    "int": whole_lone, "bool": whole_lone, "unit": whole_lone, "var": whole_var, "con": whole_made, "fn": whole_fn,
    "call": whole_parts, "let": whole_let, "rec": whole_rec, "if": whole_parts, "match": whole_rules,
    "tuple": whole_tuple, "seq": whole_parts, "raise": whole_parts, "try": whole_rules, "prim": whole_prim,
}
