"""Still parts, and the parts of an expression that are worked ahead of all else."""

from changedsame.errors import InvalidExpr
from changedsame.finding import is_value
from changedsame.spots import children
from changedsame.trees import is_expr

EARLY_FIRST = ("con", "raise", "if", "match", "let")
EARLY_ALL = ("call", "tuple", "prim", "seq")


def is_still(expr):
    """Whether an expression is still."""
    if not is_expr(expr):
        raise InvalidExpr(expr)
    return is_value(expr)


def early_children(expr):
    """The list of the numbers of an expression's early children."""
    if not is_expr(expr):
        raise InvalidExpr(expr)
    return early_of(expr)


def early_of(expr):
    """The same of what is known to be an expression."""
    many = len(children(expr))
    if expr[0] in EARLY_FIRST:
        return list(range(min(many, 1)))
    return list(range(many)) if expr[0] in EARLY_ALL else []
