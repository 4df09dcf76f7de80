"""What each name that is used in a resolved program means.

A sense is a tuple (place, kind, meaning): the kind is "value", "con", "cons" (of patterns) or "sorts" (of declared
types); the meaning a local binder or a whole name, of the last two kinds a tuple of whole names.
An occurrence is a tuple (place, position among the names there, kind, name as it is written, meaning) of one name.
"""

from changedsame.sights import meaning, sights_of, whole_decls
from changedsame.spots import all_exprs, decls_of


def pattern_cons(pattern):
    """The list of the names of the constructors in a pattern, from left to right."""
    if pattern[0] == "tuple":
        return [name for part in pattern[1] for name in pattern_cons(part)]
    if pattern[0] == "con":
        return [pattern[1]] + ([] if pattern[2] is None else pattern_cons(pattern[2]))
    return []


def rule_cons(expr):
    """The list of the names of the constructors in the patterns of a match or a try."""
    return [name for pattern, _ in expr[2] for name in pattern_cons(pattern)]


def written_sorts(written):
    """The list of the names of the types in a type, from left to right."""
    if written[0] == "data":
        return [written[1]] + [name for part in written[2] for name in written_sorts(part)]
    inner = written[1] if written[0] == "tuple" else written[1:]
    return [] if written[0] == "param" else [name for part in inner for name in written_sorts(part)]


def decl_arguments(decl):
    """The list of the types of the arguments of what a declaration declares."""
    cases = decl[3] if decl[0] == "type" else [decl[1:]] if decl[0] == "exception" else []
    return [argument for _, argument in cases if argument is not None]


def decl_sorts(decl):
    """The list of the names of the types in a declaration of a type or an exception."""
    return [name for argument in decl_arguments(decl) for name in written_sorts(argument)]


def senses(program, whole):
    """The list of the senses of a resolved program, places rising."""
    found = []
    for place, expr, env in sights_of(program, whole):
        if expr[0] == "var":
            found.append((place, "value", meaning(expr[1], env)))
        elif expr[0] == "con":
            found.append((place, "con", expr[1]))
        elif expr[0] in ("match", "try"):
            found.append((place, "cons", tuple(rule_cons(expr))))
    for place, decl in whole_decls(program, whole):
        if decl[0] in ("type", "exception"):
            found.append((place, "sorts", tuple(decl_sorts(decl))))
    return sorted(found, key=place_of)


def place_of(sense):
    """The place of a sense."""
    return sense[0]


def written_names(program):
    """A dict of the lists of names, as they are written, at the places that have senses."""
    found = {}
    for place, expr in all_exprs(program):
        if expr[0] in ("var", "con"):
            found[place] = [expr[1]]
        elif expr[0] in ("match", "try"):
            found[place] = rule_cons(expr)
    for place, decl in decls_of(program):
        if decl[0] in ("type", "exception"):
            found[place] = decl_sorts(decl)
    return found


def occurrences(program, whole):
    """The list of the occurrences of names in a resolved program, places rising."""
    names = written_names(program)
    found = []
    for place, kind, told in senses(program, whole):
        if kind in ("value", "con"):
            found.append((place, 0, kind, names[place][0], told))
        else:
            single = "con" if kind == "cons" else "sort"
            found.extend([(place, k, single, names[place][k], name) for k, name in enumerate(told)])
    return found
