"""Programs with some names written otherwise.

The names that are used are told by a dict: (place, position among the names there) leads to the new name; the names
that are bound by another one: (place, position of the binder) leads to the new name.
"""

from changedsame.senses import decl_sorts, rule_cons
from changedsame.sights import decl_names, names_bound
from changedsame.spots import children, decl_exprs, with_children, with_decl_exprs


def told_names(table, place, names):
    """Some names at a place, those that the dict tells being new."""
    return [table.get((place, k), name) for k, name in enumerate(names)]


def rewritten(program, used, bound):
    """The program with the names as two dicts tell."""
    return tuple([module[:3] + (rewritten_decls((at,), module[3], used, bound),) for at, module in enumerate(program)])


def rewritten_decls(begin, decls, used, bound):
    return tuple([rewritten_decl(begin + (k,), decl, used, bound) for k, decl in enumerate(decls)])


def rewritten_decl(place, decl, used, bound):
    """A declaration at a place with the names as two dicts tell."""
    if decl[0] in ("type", "exception"):
        return with_sorts(decl, told_names(used, place, decl_sorts(decl)))
    exprs = [rewritten_expr(place + steps, expr, used, bound) for steps, expr in decl_exprs(decl)]
    told = with_decl_exprs(decl, exprs)
    if decl[0] == "rec":
        names = told_names(bound, place, decl_names(decl))
        return ("rec", tuple([(member[0], name, member[2]) for member, name in zip(told[1], names)]))
    return told


def rewritten_expr(place, expr, used, bound):
    """An expression at a place with the names as two dicts tell."""
    inner = [rewritten_expr(place + (k,), part, used, bound) for k, part in enumerate(children(expr))]
    told = with_children(expr, inner)
    if told[0] in ("var", "con"):
        return (told[0], told_names(used, place, [told[1]])[0]) + told[2:]
    if told[0] in ("match", "try"):
        cons = told_names(used, place, rule_cons(told))
        return with_rules(told, cons, told_names(bound, place, names_bound(told)))
    names = told_names(bound, place, names_bound(told))
    if told[0] in ("fn", "let"):
        return (told[0], names[0]) + told[2:]
    if told[0] == "rec":
        many = len(told[1])
        members = [(names[k], names[many + k], member[2]) for k, member in enumerate(told[1])]
        return ("rec", tuple(members), told[2])
    return told


def with_rules(expr, cons, names):
    """A match or a try with other names of constructors, and other bound names, in its patterns."""
    left_cons, left_names = list(cons), list(names)
    rules = [(with_pattern(pattern, left_cons, left_names), body) for pattern, body in expr[2]]
    return expr[:2] + (tuple(rules),)


def with_pattern(pattern, cons, names):
    """A pattern with other names, which are taken from the beginnings of both lists."""
    if pattern[0] == "bind":
        return ("bind", names.pop(0))
    if pattern[0] == "tuple":
        return ("tuple", tuple([with_pattern(part, cons, names) for part in pattern[1]]))
    if pattern[0] == "con":
        name = cons.pop(0)
        return ("con", name, None if pattern[2] is None else with_pattern(pattern[2], cons, names))
    return pattern


def with_sorts(decl, sorts):
    """A declaration of a type or an exception with other names of types."""
    left = list(sorts)
    if decl[0] == "exception":
        return decl[:2] + (with_argument(decl[2], left),)
    return decl[:3] + (tuple([(case[0], with_argument(case[1], left)) for case in decl[3]]),)


def with_argument(written, sorts):
    return None if written is None else with_written(written, sorts)


def with_written(written, sorts):
    """A type with other names of types, which are taken from the beginning of the list."""
    if written[0] == "data":
        name = sorts.pop(0)
        return ("data", name, tuple([with_written(part, sorts) for part in written[2]]))
    if written[0] == "tuple":
        return ("tuple", tuple([with_written(part, sorts) for part in written[1]]))
    if written[0] == "param":
        return written
    return written[:1] + tuple([with_written(part, sorts) for part in written[1:]])
