"""What each name in a program means: the expressions of a resolved program, with the binders of locals around.

A sight is a tuple (place, expression with whole names, dict of local names and their binders).
"""

from changedsame.binding import scopes
from changedsame.labels import plain_member, without_labels
from changedsame.nodes import pattern_names
from changedsame.spots import decl_exprs, decls_of
from changedsame.wholes import whole_of


def names_bound(expr):
    """The list of the names that an expression binds, the position of each being that of its binder."""
    word = expr[0]
    if word in ("fn", "let"):
        return [expr[1]]
    if word == "rec":
        return [member[0] for member in expr[1]] + [member[1] for member in expr[1]]
    if word in ("match", "try"):
        return [name for pattern, _ in expr[2] for name in pattern_names(pattern)]
    return []


def bound_below(expr):
    """The list of the lists of the positions of names that an expression binds in each one in it."""
    word = expr[0]
    if word == "rec":
        many = len(expr[1])
        return [list(range(many)) + [many + k] for k in range(many)] + [list(range(many))]
    rows = []
    begin = 0
    for names, _ in scopes(expr):
        rows.append(list(range(begin, begin + len(names))))
        begin += len(names)
    return rows


def decl_names(decl):
    """The list of the names of parameters that a declaration binds itself."""
    return [member[1] for member in decl[1]] if decl[0] == "rec" else []


def whole_decls(program, whole):
    """The list of the tuples (place, declaration with whole names, without labels) of a resolved program."""
    found = []
    for at, told in zip(decls_of(program), whole.decls()):
        if told[0] == "rec":
            told = ("rec", tuple([plain_member(member) for member in told[1]]))
        elif told[0] in ("let", "do"):
            told = told[:-1] + (without_labels(told[-1]),)
        found.append((at[0], told))
    return found


def sights(program):
    """The list of the sights of a program, places rising; raises its first fault."""
    return sights_of(program, whole_of(program))


def sights_of(program, whole):
    """The same of a program of which the Whole is known."""
    found = []
    for place, decl in whole_decls(program, whole):
        names = decl_names(decl)
        for steps, expr in decl_exprs(decl):
            env = {names[k]: ("local", place, k) for k in steps}
            found.extend(sights_below(place + steps, expr, env))
    return found


def sights_below(place, expr, env):
    """The sights of an expression at a place and of all within it."""
    found = [(place, expr, env)]
    names = names_bound(expr)
    rows = bound_below(expr)
    for k, inner in enumerate(scopes(expr)):
        around = {name: env[name] for name in env}
        for at in rows[k]:
            around[names[at]] = ("local", place, at)
        found.extend(sights_below(place + (k,), inner[1], around))
    return found


def meaning(name, env):
    """What a name with the binders around means: a local binder, or its whole name."""
    return env[name] if name in env else name
