"""Programs without their names, and the places outside of which two programs are the same."""

from changedsame.spots import children, decl_exprs, with_children, with_decl_exprs


def build_of(program):
    """What is left of a program without its names."""
    told = []
    for _, _, shows, decls in program:
        told.append((None if shows is None else len(shows), tuple([decl_build(decl) for decl in decls])))
    return tuple(told)


def decl_build(decl):
    """What is left of a declaration without its names."""
    word = decl[0]
    if word == "type":
        return (word, len(decl[2]), tuple([written_build(argument) for _, argument in decl[3]]))
    if word == "exception":
        return (word, written_build(decl[2]))
    return (word, tuple([expr_build(expr) for _, expr in decl_exprs(decl)]))


def written_build(written):
    """What is left of a written type, or of None."""
    if written is None:
        return None
    word = written[0]
    if word == "param":
        return (word,)
    parts = written[1] if word == "tuple" else written[2] if word == "data" else written[1:]
    return (word, tuple([written_build(part) for part in parts]))


def expr_build(expr):
    """What is left of an expression without its names."""
    word = expr[0]
    told = (word, tuple([expr_build(part) for part in children(expr)]))
    if word in ("int", "bool", "prim"):
        return told + (expr[1],)
    if word in ("match", "try"):
        return told + (tuple([pattern_build(rule[0]) for rule in expr[2]]),)
    return told


def pattern_build(pattern):
    """What is left of a pattern without its names."""
    word = pattern[0]
    if word in ("bind", "con"):
        return (word, None if word == "bind" or pattern[2] is None else pattern_build(pattern[2]))
    return (word, tuple([pattern_build(part) for part in pattern[1]])) if word == "tuple" else pattern


def middle(program, other):
    """The longest place outside of which two programs are the same, None if they are equal."""
    if program == other:
        return None
    at = lone_difference(program, other)
    if at is None or program[at][:3] != other[at][:3]:
        return () if at is None else (at,)
    k = lone_difference(program[at][3], other[at][3])
    return (at,) if k is None else decl_middle((at, k), program[at][3][k], other[at][3][k])


def lone_difference(parts, others):
    """The position of the only parts of two tuples that are not equal; None if there is no such one."""
    if len(parts) != len(others):
        return None
    found = [k for k in range(len(parts)) if parts[k] != others[k]]
    return found[0] if len(found) == 1 else None


def decl_middle(place, decl, other):
    """The same of two unlike declarations at a place."""
    exprs, others = [[expr for _, expr in decl_exprs(told)] for told in (decl, other)]
    if len(exprs) != len(others) or with_decl_exprs(decl, others) != other:
        return place
    k = lone_difference(exprs, others)
    return place if k is None else expr_middle(place + decl_exprs(decl)[k][0], exprs[k], others[k])


def expr_middle(place, expr, other):
    """The same of two unlike expressions at a place."""
    parts, others = children(expr), children(other)
    if len(parts) != len(others) or with_children(expr, others) != other:
        return place
    k = lone_difference(parts, others)
    return place if k is None else expr_middle(place + (k,), parts[k], others[k])
