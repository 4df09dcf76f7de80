"""A second way to find what a name is of: from inside out, holder by holder."""

from changedsame.places import expr_at, holders
from changedsame.wholes import resolved


def pattern_names(pattern):
    if pattern[0] == "bind":
        return [pattern[1]]
    if pattern[0] == "tuple":
        return [name for part in pattern[1] for name in pattern_names(part)]
    return pattern_names(pattern[2]) if pattern[0] == "con" and pattern[2] is not None else []


def naive_binder(program, place, name):
    """The binder of a name at a place: looked for from inside out, holder by holder."""
    if "." in name:
        return ("value", resolved(program).value_names().index(name))
    for holder in holders(program, place)[::-1]:
        expr = expr_at(program, holder)
        step = place[len(holder)]
        if expr[0] == "fn" and expr[1] == name or expr[0] == "let" and expr[1] == name and step == 1:
            return ("local", holder, 0)
        if expr[0] == "rec":
            many = len(expr[1])
            if step < many and expr[1][step][1] == name:
                return ("local", holder, many + step)
            members = [member[0] for member in expr[1]]
            if name in members:
                return ("local", holder, members.index(name))
        if expr[0] in ("match", "try") and step > 0:
            ahead = sum(len(pattern_names(rule[0])) for rule in expr[2][:step - 1])
            names = pattern_names(expr[2][step - 1][0])
            if name in names:
                return ("local", holder, ahead + names.index(name))
    at, d = place[:2]
    decl = program[at][3][d]
    if decl[0] == "rec" and decl[1][place[2]][1] == name:
        return ("local", (at, d), place[2])
    return ("value", resolved(program).value_names().index(f"{program[at][1]}.{name}"))
