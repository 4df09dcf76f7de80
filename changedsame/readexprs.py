"""Reading expressions."""

from changedsame.basics import PRIMS
from changedsame.readpatterns import number_of, read_pattern

SMALL_KINDS = ("number", "name", "big")
SMALL_WORDS = (
    "!", "true", "false", "(", "match", "try", "not", "ref", "size", "tell", "same", "array", "at", "place", "ask",
)
WRITTEN_PRIMS = ("not", "ref", "size", "tell", "same", "array", "at", "place", "ask")

SIGNS = {
    ":=": "put", "=": "eq", "<": "lt", "<=": "le", "+": "add", "-": "sub", "*": "mul", "/": "div", "mod": "mod",
}
LEVELS = {":=": 1, "=": 2, "<": 2, "<=": 2, "+": 3, "-": 3, "*": 4, "/": 4, "mod": 4}

# From this level on signs of one level group to the left; below it no two of them stand side by side.
GROUPED = 3


def read_expr(cursor):
    """E: parts with semicolons between; an open form takes all that stands behind it, so it is the last one."""
    parts = [read_part(cursor)]
    while cursor.takes(";"):
        parts.append(read_part(cursor))
    expr = parts.pop()
    while parts:
        expr = ("seq", parts.pop(), expr)
    return expr


def read_part(cursor):
    """OPEN or PUT."""
    if cursor.takes("fn"):
        name = cursor.take_name(())
        cursor.want("->")
        return ("fn", name, read_expr(cursor))
    if cursor.takes("let"):
        return read_let(cursor)
    if cursor.takes("rec"):
        functions = read_functions(cursor)
        cursor.want("in")
        return ("rec", functions, read_expr(cursor))
    if cursor.takes("if"):
        return read_if(cursor)
    return read_signs(cursor)


def read_let(cursor):
    name = cursor.take_name(())
    cursor.want("=")
    first = read_expr(cursor)
    cursor.want("in")
    return ("let", name, first, read_expr(cursor))


def read_if(cursor):
    test = read_expr(cursor)
    cursor.want("then")
    first = read_expr(cursor)
    cursor.want("else")
    return ("if", test, first, read_expr(cursor))


def read_functions(cursor):
    """FUNS: one to four members of unlike names."""
    functions = [read_function(cursor, [])]
    while len(functions) < 4 and cursor.takes("and"):
        functions.append(read_function(cursor, [member[0] for member in functions]))
    return tuple(functions)


def read_function(cursor, barred):
    name = cursor.take_name(barred)
    parameter = cursor.take_name(())
    cursor.want("=")
    return (name, parameter, read_expr(cursor))


def read_signs(cursor):
    """PUT, CMP, ADD and MUL: signs that wait are kept with their operands until a weaker sign comes."""
    parts = [read_call(cursor)]
    signs = []
    while cursor.word() in LEVELS:
        level = LEVELS[cursor.word()]
        while signs and (LEVELS[signs[-1]] > level or LEVELS[signs[-1]] == level and level >= GROUPED):
            join_last(parts, signs)
        if signs and LEVELS[signs[-1]] == level:
            cursor.stop()
        signs.append(cursor.take())
        parts.append(read_call(cursor))
    while signs:
        join_last(parts, signs)
    return parts[0]


def join_last(parts, signs):
    """Changes both lists: the last sign takes the last two operands."""
    last = parts.pop()
    first = parts.pop()
    parts.append(("prim", SIGNS[signs.pop()], (first, last)))


def begins_small(cursor):
    """Whether the next token begins a PRE."""
    return cursor.token_kind() in SMALL_KINDS or cursor.word() in SMALL_WORDS


def read_call(cursor):
    """APP: what is called, with its arguments one behind another."""
    if cursor.takes("raise"):
        expr = ("raise", read_pre(cursor))
    elif cursor.token_kind() == "big":
        con = cursor.take()
        expr = ("con", con, read_pre(cursor) if begins_small(cursor) else None)
    else:
        expr = read_pre(cursor)
    while begins_small(cursor):
        expr = ("call", expr, read_pre(cursor))
    return expr


def read_pre(cursor):
    """PRE: signs of exclamation ahead of a small expression."""
    gets = 0
    while cursor.takes("!"):
        gets += 1
    expr = read_small(cursor)
    for _ in range(gets):
        expr = ("prim", "get", (expr,))
    return expr


def read_small(cursor):
    """ATOM: an expression that needs no brackets wherever it stands."""
    kind = cursor.token_kind()
    word = cursor.word()
    if kind == "number":
        return ("int", number_of(cursor.take()))
    if kind == "name":
        return ("var", cursor.take())
    if kind == "big":
        return ("con", cursor.take(), None)
    if word in ("true", "false"):
        return ("bool", cursor.take() == "true")
    if word in ("match", "try"):
        return read_rules(cursor, cursor.take())
    if word in WRITTEN_PRIMS:
        return read_prim(cursor, cursor.take())
    cursor.want("(")
    return read_bracketed(cursor)


def read_bracketed(cursor):
    """What stands behind an opening bracket: unit, an expression, or a tuple of two to four."""
    if cursor.takes(")"):
        return ("unit",)
    parts = [read_expr(cursor)]
    while len(parts) < 4 and cursor.takes(","):
        parts.append(read_expr(cursor))
    cursor.want(")")
    return parts[0] if len(parts) == 1 else ("tuple", tuple(parts))


def read_prim(cursor, word):
    """A prim that is written as a word, with as many expressions as it takes."""
    parts = []
    cursor.want("(")
    while len(parts) < PRIMS[word]:
        if parts:
            cursor.want(",")
        parts.append(read_expr(cursor))
    cursor.want(")")
    return ("prim", word, tuple(parts))


def read_rules(cursor, word):
    """A match or a try, behind its first word."""
    expr = read_expr(cursor)
    cursor.want("with")
    rules = [read_rule(cursor)]
    while len(rules) < 8 and cursor.takes("|"):
        rules.append(read_rule(cursor))
    cursor.want("end")
    return (word, expr, tuple(rules))


def read_rule(cursor):
    pattern = read_pattern(cursor, [])
    cursor.want("->")
    return (pattern, read_expr(cursor))
