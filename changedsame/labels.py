"""Whole expressions without labels, and the functions that the labels are of."""

from changedsame.binding import free_in


def without_labels(expr):
    """A whole expression as an expression with whole names."""
    word = expr[0]
    if word == "fn":
        return ("fn", expr[2], without_labels(expr[3]))
    if word == "rec":
        return ("rec", tuple([plain_member(member) for member in expr[1]]), without_labels(expr[2]))
    if word in ("match", "try"):
        rules = [(pattern, without_labels(body)) for pattern, body in expr[2]]
        return (word, without_labels(expr[1]), tuple(rules))
    if word == "let":
        return ("let", expr[1], without_labels(expr[2]), without_labels(expr[3]))
    if word == "con":
        return expr if expr[2] is None else ("con", expr[1], without_labels(expr[2]))
    if word == "prim":
        return ("prim", expr[1], tuple([without_labels(part) for part in expr[2]]))
    if word == "tuple":
        return ("tuple", tuple([without_labels(part) for part in expr[1]]))
    if word in ("call", "if", "seq", "raise"):
        return (word,) + tuple([without_labels(part) for part in expr[1:]])
    return expr


def plain_member(member):
    """A member of a whole rec without its label."""
    return (member[1], member[2], without_labels(member[3]))


def captures(parameter, body):
    """The sorted list of the local names that are free in a function's body, a whole expression."""
    free = free_in(without_labels(body))
    return sorted([name for name in free if name != parameter and "." not in name])
