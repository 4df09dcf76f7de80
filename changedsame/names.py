"""Free names, renaming, and expressions that are alike but for local names."""

from changedsame.binding import changed, free_in, scopes
from changedsame.errors import InvalidExpr, InvalidName
from changedsame.trees import is_expr, is_name


def free_names(expr):
    """The sorted list of the names that are free in an expression."""
    if not is_expr(expr):
        raise InvalidExpr(expr)
    return sorted(free_in(expr))


def renamed(expr, name, other):
    """The expression with a name, where it is free, changed to another one."""
    if not is_expr(expr):
        raise InvalidExpr(expr)
    if not is_name(name):
        raise InvalidName(name)
    if not is_name(other):
        raise InvalidName(other)
    return expr if name == other else changed(expr, name, other)


def are_alpha(expr, other):
    """Whether two expressions are alike but for local names."""
    if not is_expr(expr):
        raise InvalidExpr(expr)
    if not is_expr(other):
        raise InvalidExpr(other)
    return are_like(expr, other, (), ())


def are_like(expr, other, bound, others):
    """The same where names are bound around both, from outside in."""
    if expr[0] == "var" and other[0] == "var":
        place = last_place(bound, expr[1])
        return place == last_place(others, other[1]) and (place is not None or expr[1] == other[1])
    if not are_made_alike(expr, other):
        return False
    for inner, twin in zip(scopes(expr), scopes(other)):
        if not are_like(inner[1], twin[1], bound + inner[0], others + twin[0]):
            return False
    return True


def last_place(names, name):
    """The place where a name stands last, None if it doesn't."""
    for place in range(len(names) - 1, -1, -1):
        if names[place] == name:
            return place
    return None


def are_made_alike(expr, other):
    """Whether two expressions have one form, parts and names left out."""
    word = expr[0]
    if word != other[0] or len(scopes(expr)) != len(scopes(other)):
        return False
    if word in ("int", "bool", "con", "prim"):
        return expr[1] == other[1]
    if word in ("match", "try"):
        return all([blank(rule[0]) == blank(twin[0]) for rule, twin in zip(expr[2], other[2])])
    return True


def blank(pattern):
    """A pattern without the names that it binds."""
    if pattern[0] == "bind":
        return ("bind",)
    if pattern[0] == "tuple":
        return ("tuple", tuple([blank(part) for part in pattern[1]]))
    if pattern[0] == "con" and pattern[2] is not None:
        return ("con", pattern[1], blank(pattern[2]))
    return pattern
