"""How types, patterns and expressions are written: of each form its level and its items (see writing.py)."""

from changedsame.writing import listed

# Types and patterns have up to three levels.
ARROWS = 0
STARS = 1
ATOM_WRITTEN = 2
WITH_ARGUMENT = 0
ATOM_PATTERN = 1

# Expressions have one for each line of the grammar: OPEN and E, PUT, CMP, ADD, MUL, APP, PRE, ATOM.
OPEN = 0
PUT = 1
APP = 5
PRE = 6
ATOM = 7

# Of each sign: how it is written, its own level (PUT to MUL), and the least ones of what stands ahead and behind.
SIGNS = {
    "put": (":=", 1, 2, 2), "eq": ("=", 2, 3, 3), "lt": ("<", 2, 3, 3), "le": ("<=", 2, 3, 3), "add": ("+", 3, 3, 4),
    "sub": ("-", 3, 3, 4), "mul": ("*", 4, 4, 5), "div": ("/", 4, 4, 5), "mod": ("mod", 4, 4, 5),
}


def number_word(number):
    return f"~{0 - number}" if number < 0 else str(number)


def bool_word(value):
    return "true" if value else "false"


def written_items(written):
    """The level and the items of a type."""
    word = written[0]
    if word == "fun":
        return (ARROWS, [(written_items, written[1], STARS), "->", (written_items, written[2], ARROWS)])
    if word == "tuple":
        return (STARS, listed([(written_items, part, ATOM_WRITTEN) for part in written[1]], "*"))
    if word == "param":
        return (ATOM_WRITTEN, ["'", written[1]])
    if word == "data":
        return (ATOM_WRITTEN, data_items(written[1], written[2]))
    if word in ("ref", "array"):
        return (ATOM_WRITTEN, data_items(word, written[1:]))
    return (ATOM_WRITTEN, [word])


def data_items(name, parts):
    """A type's name with types in brackets behind it, if there are any."""
    if not parts:
        return [name]
    return [name + "("] + listed([(written_items, part, ARROWS) for part in parts], ",") + [")"]


def pattern_items(pattern):
    """The level and the items of a pattern."""
    word = pattern[0]
    if word == "con" and pattern[2] is not None:
        return (WITH_ARGUMENT, [pattern[1], (pattern_items, pattern[2], ATOM_PATTERN)])
    if word == "tuple":
        parts = listed([(pattern_items, part, WITH_ARGUMENT) for part in pattern[1]], ",")
        return (ATOM_PATTERN, ["("] + parts + [")"])
    if word == "any":
        return (ATOM_PATTERN, ["_"])
    if word == "unit":
        return (ATOM_PATTERN, ["(", ")"])
    if word == "int":
        return (ATOM_PATTERN, [number_word(pattern[1])])
    if word == "bool":
        return (ATOM_PATTERN, [bool_word(pattern[1])])
    return (ATOM_PATTERN, [pattern[1]])


def inner(expr, least):
    return (expr_items, expr, least)


def int_items(expr):
    return (ATOM, [number_word(expr[1])])


def bool_items(expr):
    return (ATOM, [bool_word(expr[1])])


def unit_items(expr):
    return (ATOM, ["(", ")"])


def var_items(expr):
    return (ATOM, [expr[1]])


def con_items(expr):
    if expr[2] is None:
        return (ATOM, [expr[1]])
    return (APP, [expr[1], inner(expr[2], PRE)])


def fn_items(expr):
    return (OPEN, ["fn", expr[1], "->", inner(expr[2], OPEN)])


def call_items(expr):
    # A constructor alone would take the argument as its own one.
    alone = expr[1][0] == "con" and expr[1][2] is None
    head = ["(", expr[1][1], ")"] if alone else [inner(expr[1], APP)]
    return (APP, head + [inner(expr[2], PRE)])


def let_items(expr):
    return (OPEN, ["let", expr[1], "=", inner(expr[2], OPEN), "in", inner(expr[3], OPEN)])


def member_items(functions):
    """The members of a rec, with "and" between."""
    items = []
    for name, parameter, body in functions:
        items.extend(["and"] if items else [])
        items.extend([name, parameter, "=", inner(body, OPEN)])
    return items


def rec_items(expr):
    return (OPEN, ["rec"] + member_items(expr[1]) + ["in", inner(expr[2], OPEN)])


def if_items(expr):
    test, first, last = [inner(part, OPEN) for part in expr[1:]]
    return (OPEN, ["if", test, "then", first, "else", last])


def rules_items(expr):
    items = [expr[0], inner(expr[1], OPEN), "with"]
    for pattern, body in expr[2]:
        items.extend([] if items[-1] == "with" else ["|"])
        items.extend([(pattern_items, pattern, WITH_ARGUMENT), "->", inner(body, OPEN)])
    return (ATOM, items + ["end"])


def tuple_items(expr):
    return (ATOM, ["("] + listed([inner(part, OPEN) for part in expr[1]], ",") + [")"])


def seq_items(expr):
    return (OPEN, [inner(expr[1], PUT), ";", inner(expr[2], OPEN)])


def raise_items(expr):
    return (APP, ["raise", inner(expr[1], PRE)])


def prim_items(expr):
    word, parts = expr[1], expr[2]
    if word == "get":
        return (PRE, ["!", inner(parts[0], PRE)])
    if word in SIGNS:
        sign, level, ahead, behind = SIGNS[word]
        return (level, [inner(parts[0], ahead), sign, inner(parts[1], behind)])
    return (ATOM, [word + "("] + listed([inner(part, OPEN) for part in parts], ",") + [")"])


FORMS = {
    "int": int_items, "bool": bool_items, "unit": unit_items, "var": var_items, "con": con_items, "fn": fn_items,
    "call": call_items, "let": let_items, "rec": rec_items, "if": if_items, "match": rules_items,
    "tuple": tuple_items, "seq": seq_items, "raise": raise_items, "try": rules_items, "prim": prim_items,
}


def expr_items(expr):
    """The level and the items of an expression."""
    action = FORMS[expr[0]]
    return action(expr)
