"""The expressions in a program, each found by its place: reading them, and putting others there."""

from changedsame.basics import is_count
from changedsame.binding import scopes


def children(expr):
    """The list of the expressions in an expression, as they stand."""
    return [part for _, part in scopes(expr)]


def with_children(expr, parts):
    """The expression with other ones, as many, in the place of those in it."""
    word = expr[0]
    if word == "fn":
        return ("fn", expr[1], parts[0])
    if word == "let":
        return ("let", expr[1], parts[0], parts[1])
    if word == "rec":
        return ("rec", with_bodies(expr[1], parts), parts[-1])
    if word in ("match", "try"):
        return (word, parts[0], tuple([(rule[0], part) for rule, part in zip(expr[2], parts[1:])]))
    if word == "con":
        return (word, expr[1], parts[0]) if parts else expr
    if word == "prim":
        return (word, expr[1], tuple(parts))
    if word == "tuple":
        return (word, tuple(parts))
    return (word,) + tuple(parts) if parts else expr


def with_bodies(members, bodies):
    """The members of a rec with other bodies."""
    return tuple([(member[0], member[1], body) for member, body in zip(members, bodies)])


def decl_exprs(decl):
    """The list of the tuples (steps behind the declaration's place, expression) of a declaration."""
    if decl[0] == "rec":
        return [((k,), member[2]) for k, member in enumerate(decl[1])]
    return [((), decl[-1])] if decl[0] in ("let", "do") else []


def with_decl_exprs(decl, exprs):
    """The declaration with other expressions, as many, in the place of those in it."""
    if decl[0] == "rec":
        return ("rec", with_bodies(decl[1], exprs))
    return decl[:-1] + (exprs[0],) if exprs else decl


def decls_of(program):
    """The list of the tuples (place, declaration) of all declarations."""
    found = []
    for at, module in enumerate(program):
        found.extend([((at, k), decl) for k, decl in enumerate(module[3])])
    return found


def with_decl(program, place, decl):
    """The program with another declaration at a declaration's place."""
    at, k = place
    module = program[at]
    changed_module = module[:3] + (module[3][:k] + (decl,) + module[3][k + 1:],)
    return program[:at] + (changed_module,) + program[at + 1:]


def below(place, expr):
    """The list of the tuples (place, expression) of an expression at a place and of all within it, as they stand."""
    found = [(place, expr)]
    for k, part in enumerate(children(expr)):
        found.extend(below(place + (k,), part))
    return found


def all_exprs(program):
    """The list of the tuples (place, expression) of a program, places rising."""
    found = []
    for place, decl in decls_of(program):
        for steps, expr in decl_exprs(decl):
            found.extend(below(place + steps, expr))
    return found


def is_counts(value):
    """Whether any value is a tuple of counts."""
    return isinstance(value, tuple) and all([is_count(step) for step in value])


def found_at(program, value):
    """The expression at a place of the program, None for any value that is none."""
    if not is_counts(value) or len(value) < 2 or value[0] >= len(program):
        return None
    decls = program[value[0]][3]
    if value[1] >= len(decls):
        return None
    steps = value[2:]
    for begin, expr in decl_exprs(decls[value[1]]):
        if steps[:len(begin)] == begin:
            return inner_at(expr, steps[len(begin):])
    return None


def inner_at(expr, steps):
    """The expression to which some steps lead from an expression, None if there is none."""
    for step in steps:
        inside = children(expr)
        if step >= len(inside):
            return None
        expr = inside[step]
    return expr


def with_inner_at(expr, steps, part):
    """The expression with another one where some steps lead."""
    if not steps:
        return part
    inside = children(expr)
    inside[steps[0]] = with_inner_at(inside[steps[0]], steps[1:], part)
    return with_children(expr, inside)


def outermost(program, place):
    """The place of the whole expression of a declaration in which a place is."""
    at, k = place[:2]
    return place[:3] if program[at][3][k][0] == "rec" else place[:2]


def with_expr_at(program, place, part):
    """The program with another expression at a place."""
    at, k = place[:2]
    decl = program[at][3][k]
    many = len(outermost(program, place))
    exprs = []
    for begin, expr in decl_exprs(decl):
        is_there = place[:2] + begin == place[:many]
        exprs.append(with_inner_at(expr, place[many:], part) if is_there else expr)
    return with_decl(program, place[:2], with_decl_exprs(decl, exprs))
