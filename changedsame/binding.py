"""What an expression binds where, its free names, and names changed so that none is caught."""

from changedsame.nodes import pattern_names

KEPT_SIGNS = 16


def scopes(expr):
    """The tuples (names that are bound there, expression) of the expressions in an expression, as they stand."""
    word = expr[0]
    if word in ("fn", "let"):
        firsts = [((), expr[2])] if word == "let" else []
        return firsts + [((expr[1],), expr[-1])]
    if word == "rec":
        names = tuple([member[0] for member in expr[1]])
        return [(names + (member[1],), member[2]) for member in expr[1]] + [(names, expr[2])]
    if word in ("match", "try"):
        return [((), expr[1])] + [(tuple(pattern_names(rule[0])), rule[1]) for rule in expr[2]]
    if word in ("call", "if", "seq", "raise"):
        return [((), part) for part in expr[1:]]
    if word == "con":
        return [] if expr[2] is None else [((), expr[2])]
    if word in ("tuple", "prim"):
        return [((), part) for part in expr[-1]]
    return []


def free_in(expr):
    """A dict with the names that are free in an expression."""
    if expr[0] == "var":
        return {expr[1]: True}
    found = {}
    for names, part in scopes(expr):
        for name in free_in(part):
            if name not in names:
                found[name] = True
    return found


def free_uses(steps, expr, bound):
    """The list of the tuples (steps, name) of the uses in an expression of names that are not bound."""
    if expr[0] == "var":
        return [] if expr[1] in bound else [(steps, expr[1])]
    uses = []
    for k, inner in enumerate(scopes(expr)):
        uses.extend(free_uses(steps + (k,), inner[1], bound + inner[0]))
    return uses


def fresh_name(old, new, exprs, barred):
    """The first name made of the new one that is neither free in the expressions nor one of those barred."""
    used = {old: True, new: True}
    used.update({name: True for name in barred})
    for expr in exprs:
        used.update(free_in(expr))
    start = new[:KEPT_SIGNS]
    k = 0
    while f"{start}{k}" in used:
        k += 1
    return f"{start}{k}"


def changed(expr, old, new):
    """The expression with the old name, where it is free, changed to the new one."""
    if old not in free_in(expr):
        return expr
    word = expr[0]
    if word == "var":
        return ("var", new)
    if word == "fn":
        return ("fn",) + changed_below(expr[1], expr[2], (), old, new)
    if word == "let":
        name, rest = changed_below(expr[1], expr[3], (), old, new)
        return ("let", name, changed(expr[2], old, new), rest)
    if word == "rec":
        return changed_rec(expr, old, new)
    if word in ("match", "try"):
        rules = [changed_rule(pattern, body, old, new) for pattern, body in expr[2]]
        return (word, changed(expr[1], old, new), tuple(rules))
    if word == "con":
        return ("con", expr[1], changed(expr[2], old, new))
    if word == "prim":
        return ("prim", expr[1], tuple([changed(part, old, new) for part in expr[2]]))
    if word == "tuple":
        return ("tuple", tuple([changed(part, old, new) for part in expr[1]]))
    return (word,) + tuple([changed(part, old, new) for part in expr[1:]])


def changed_below(bound, body, others, old, new):
    """A bound name and the expression in which it is bound, which other names are, too, by the same binding."""
    if bound == old:
        return (bound, body)
    if bound == new and old in free_in(body):
        fresh = fresh_name(old, new, [body], others)
        return (fresh, changed(changed(body, new, fresh), old, new))
    return (bound, changed(body, old, new))


def changed_member(member, names, old, new):
    """A member of a rec of some names, its own name left as it is."""
    name, parameter, body = member
    return (name,) + changed_below(parameter, body, names, old, new)


def changed_rec(expr, old, new):
    """A rec in which the old name is free, so that none of its members has it."""
    _, members, rest = expr
    names = [member[0] for member in members]
    if new in names:
        fresh = fresh_name(old, new, [member[2] for member in members] + [rest], names)
        names = [fresh if name == new else name for name in names]
        members = [changed_member(member, names, new, fresh) for member in members]
        members = [(name,) + member[1:] for name, member in zip(names, members)]
        rest = changed(rest, new, fresh)
    members = [changed_member(member, names, old, new) for member in members]
    return ("rec", tuple(members), changed(rest, old, new))


def changed_rule(pattern, body, old, new):
    """A rule of a match or a try."""
    names = pattern_names(pattern)
    if old in names or old not in free_in(body):
        return (pattern, body)
    if new in names:
        fresh = fresh_name(old, new, [body], names)
        pattern = changed_pattern(pattern, new, fresh)
        body = changed(body, new, fresh)
    return (pattern, changed(body, old, new))


def changed_pattern(pattern, old, new):
    """A pattern with one of the names that it binds changed."""
    if pattern == ("bind", old):
        return ("bind", new)
    if pattern[0] == "tuple":
        return ("tuple", tuple([changed_pattern(part, old, new) for part in pattern[1]]))
    if pattern[0] == "con" and pattern[2] is not None:
        return ("con", pattern[1], changed_pattern(pattern[2], old, new))
    return pattern
