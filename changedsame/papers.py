"""The rules of papers that relate two expressions, and still values put for names."""

from changedsame.binding import free_in, free_uses
from changedsame.errors import InvalidExpr, InvalidName, InvalidRule, InvalidStill
from changedsame.finding import is_value
from changedsame.lets import early_of
from changedsame.names import are_like
from changedsame.putting import put
from changedsame.sizes import MOST_PARTS, size_of
from changedsame.spots import children, inner_at, with_inner_at
from changedsame.trees import is_expr, is_name

TYPED_RULES = ("rows", "choices", "given")
PROGRAM_RULES = ("names", "moved", "flipped", "turned")


def rules():
    """The list of the words of all rules."""
    return list(RELATIONS) + list(TYPED_RULES) + list(PROGRAM_RULES)


def put_for(expr, name, value):
    """The expression with a still value put for a name."""
    if not is_expr(expr):
        raise InvalidExpr(expr)
    if not is_name(name):
        raise InvalidName(name)
    if not is_expr(value) or not is_value(value):
        raise InvalidStill(value)
    return put(expr, name, value)


def are_related(rule, expr, other):
    """Whether two expressions are related by a rule, either of them being the one."""
    if not isinstance(rule, str) or rule not in RELATIONS:
        raise InvalidRule(rule)
    if not is_expr(expr):
        raise InvalidExpr(expr)
    if not is_expr(other):
        raise InvalidExpr(other)
    action = RELATIONS[rule]
    return action(expr, other) or action(other, expr)


def are_alpha_related(one, other):
    return are_like(one, other, (), ())


def are_value_related(one, other):
    if one[0] != "let" or not is_value(one[2]) or is_too_large(one):
        return False
    return are_like(put(one[3], one[1], one[2]), other, (), ())


def is_too_large(let):
    """Whether a let with its value put for its name is larger than each expression, whatever the other one is."""
    _, name, value, body = let
    added = size_of("expr", value)[0] - 1
    return size_of("expr", body)[0] + many_free(body, name) * added > MOST_PARTS


def many_free(expr, name):
    """How often a name is free in an expression."""
    return len([told for _, told in free_uses((), expr, ()) if told == name])


def are_call_related(one, other):
    return one[0] == "call" and one[1][0] == "fn" and other == ("let", one[1][1], one[2], one[1][2])


def are_named_related(one, other):
    """Whether the other is a let that names a child of the one."""
    if other[0] != "let" or other[1] in free_in(one):
        return False
    use = ("var", other[1])
    named = [with_inner_at(one, steps, use) for steps in worked_first(one) if inner_at(one, steps) == other[2]]
    return other[3] in named


def worked_first(expr):
    """The list of the steps to the children of an expression, those ahead of which all are still."""
    inside = children(expr)
    found = []
    for k in early_of(expr):
        found.append((k,))
        if not is_value(inside[k]):
            break
    if expr[0] == "con" and inside and inside[0][0] == "tuple":
        found.extend([(0,) + steps for steps in worked_first(inside[0])])
    return found


def are_nested_related(one, other):
    if one[0] not in ("let", "seq"):
        return False
    first, last = one[-2], one[-1]
    if first[0] == "seq":
        return other == ("seq", first[1], one[:-2] + (first[2], last))
    if first[0] != "let":
        return False
    is_free = first[1] in free_in(last) and not (one[0] == "let" and one[1] == first[1])
    return not is_free and other == ("let", first[1], first[2], one[:-2] + (first[3], last))


def are_unused_related(one, other):
    return one[0] == "seq" and other[0] == "let" and other[2:] == one[1:] and other[1] not in free_in(other[3])


RELATIONS = {
    "alpha": are_alpha_related, "value": are_value_related, "call": are_call_related, "named": are_named_related,
    "nested": are_nested_related, "unused": are_unused_related,
}
