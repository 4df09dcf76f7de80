"""How expressions, patterns, types, declarations and modules are made, and what stands in them.

A kind is "expr", "pattern", "root" (a pattern with all the names that it binds), "written", "decl",
"module" or "program". The functions tell the tuples (kind, value) of the parts, or None of what is none.
"""

from changedsame.basics import PRIMS, all_unlike, is_long_big, is_long_name, is_number, is_short_big, is_short_name
from changedsame.basics import is_tuple_of, word_of


def int_parts(value, kind):
    return [] if len(value) == 2 and is_number(value[1]) else None


def bool_parts(value, kind):
    return [] if len(value) == 2 and isinstance(value[1], bool) else None


def lone_parts(value, kind):
    return [] if len(value) == 1 else None


def var_parts(value, kind):
    return [] if len(value) == 2 and is_long_name(value[1]) else None


def con_parts(value, kind):
    if len(value) != 3 or not is_long_big(value[1]):
        return None
    return [] if value[2] is None else [(kind, value[2])]


def tuple_parts(value, kind):
    if len(value) != 2 or not is_tuple_of(value[1], 2, 4):
        return None
    return [(kind, part) for part in value[1]]


def fn_parts(value, kind):
    return [(kind, value[2])] if len(value) == 3 and is_short_name(value[1]) else None


def one_part(value, kind):
    return [(kind, value[1])] if len(value) == 2 else None


def two_parts(value, kind):
    return [(kind, value[1]), (kind, value[2])] if len(value) == 3 else None


def let_parts(value, kind):
    return [(kind, value[2]), (kind, value[3])] if len(value) == 4 and is_short_name(value[1]) else None


def if_parts(value, kind):
    return [(kind, part) for part in value[1:]] if len(value) == 4 else None


def member_parts(functions):
    """The bodies of the functions of a rec."""
    if not is_tuple_of(functions, 1, 4):
        return None
    for member in functions:
        if not is_tuple_of(member, 3, 3) or not is_short_name(member[0]) or not is_short_name(member[1]):
            return None
    if not all_unlike([member[0] for member in functions]):
        return None
    return [("expr", member[2]) for member in functions]


def rec_parts(value, kind):
    bodies = member_parts(value[1]) if len(value) == 3 else None
    return None if bodies is None else bodies + [(kind, value[2])]


def rules_parts(value, kind):
    if len(value) != 3 or not is_tuple_of(value[2], 1, 8):
        return None
    parts = [(kind, value[1])]
    for rule in value[2]:
        if not is_tuple_of(rule, 2, 2):
            return None
        parts = parts + [("root", rule[0]), (kind, rule[1])]
    return parts


def prim_parts(value, kind):
    if len(value) != 3 or not isinstance(value[1], str) or value[1] not in PRIMS:
        return None
    many = PRIMS[value[1]]
    return [(kind, part) for part in value[2]] if is_tuple_of(value[2], many, many) else None


def bind_parts(value, kind):
    return [] if len(value) == 2 and is_short_name(value[1]) else None


def data_parts(value, kind):
    if len(value) != 3 or not is_long_name(value[1]) or not is_tuple_of(value[2], 0, 3):
        return None
    return [(kind, part) for part in value[2]]


EXPRS = {
    "int": int_parts, "bool": bool_parts, "unit": lone_parts, "var": var_parts, "con": con_parts, "fn": fn_parts,
    "call": two_parts, "let": let_parts, "rec": rec_parts, "if": if_parts, "match": rules_parts,
    "tuple": tuple_parts, "seq": two_parts, "raise": one_part, "try": rules_parts, "prim": prim_parts,
}

PATTERNS = {
    "any": lone_parts, "bind": bind_parts, "int": int_parts, "bool": bool_parts, "unit": lone_parts,
    "con": con_parts, "tuple": tuple_parts,
}

CLOSED = {
    "int": lone_parts, "bool": lone_parts, "unit": lone_parts, "exn": lone_parts, "fun": two_parts,
    "tuple": tuple_parts, "ref": one_part, "array": one_part, "data": data_parts,
}


def expr_parts(value):
    word = word_of(value)
    if word not in EXPRS:
        return None
    action = EXPRS[word]
    return action(value, "expr")


def pattern_parts(value):
    word = word_of(value)
    if word not in PATTERNS:
        return None
    action = PATTERNS[word]
    return action(value, "pattern")


def closed_parts(value, kind):
    """The types in a type that is neither a parameter nor an unknown."""
    word = word_of(value)
    if word not in CLOSED:
        return None
    action = CLOSED[word]
    return action(value, kind)


def written_parts(value):
    if word_of(value) == "param":
        return bind_parts(value, "written")
    return closed_parts(value, "written")


def argument_parts(value):
    """The parts of a constructor's argument, which may be left out."""
    return [] if value is None else [("written", value)]


def data_decl_parts(value):
    if len(value) != 4 or not is_short_name(value[1]):
        return None
    if not is_tuple_of(value[2], 0, 3) or not is_tuple_of(value[3], 1, 6):
        return None
    names = [name for name in value[2] if is_short_name(name)]
    if len(names) < len(value[2]) or not all_unlike(names):
        return None
    parts = []
    for case in value[3]:
        if not is_tuple_of(case, 2, 2) or not is_short_big(case[0]):
            return None
        parts = parts + argument_parts(case[1])
    return parts


def exception_parts(value):
    return argument_parts(value[2]) if len(value) == 3 and is_short_big(value[1]) else None


def let_decl_parts(value):
    return [("expr", value[2])] if len(value) == 3 and is_short_name(value[1]) else None


def rec_decl_parts(value):
    return member_parts(value[1]) if len(value) == 2 else None


def do_parts(value):
    return [("expr", value[1])] if len(value) == 2 else None


DECLS = {
    "type": data_decl_parts, "exception": exception_parts, "let": let_decl_parts, "rec": rec_decl_parts,
    "do": do_parts,
}


def decl_parts(value):
    word = word_of(value)
    if word not in DECLS:
        return None
    action = DECLS[word]
    return action(value)


def are_shows(value):
    """Whether any value is what a module shows."""
    if value is None:
        return True
    if not is_tuple_of(value, 0, 40):
        return False
    names = [name for name in value if is_short_name(name) or is_short_big(name)]
    return len(names) == len(value) and all_unlike(names)


def module_parts(value):
    if word_of(value) != "module" or len(value) != 4:
        return None
    if not is_short_big(value[1]) or not are_shows(value[2]) or not is_tuple_of(value[3], 0, 20):
        return None
    return [("decl", decl) for decl in value[3]]


def program_parts(value):
    return [("module", module) for module in value] if is_tuple_of(value, 1, 6) else None


READERS = {
    "expr": expr_parts, "pattern": pattern_parts, "root": pattern_parts, "written": written_parts,
    "decl": decl_parts, "module": module_parts, "program": program_parts,
}


def tree_parts(kind, value):
    """The tuples (kind, value) of the parts in a tree of a kind, None if it is made as none is."""
    action = READERS[kind]
    return action(value)


def pattern_names(pattern):
    """The names that a pattern binds, from left to right."""
    names = []
    work = [pattern]
    while work:
        node = work.pop()
        if node[0] == "bind":
            names.append(node[1])
        elif node[0] == "tuple":
            work.extend(node[1][::-1])
        elif node[0] == "con" and node[2] is not None:
            work.append(node[2])
    return names


def names_unlike(kind, value):
    """Whether each pattern in a tree that is made as told binds unlike names."""
    work = [(kind, value)]
    while work:
        sort, node = work.pop()
        if sort == "root" and not all_unlike(pattern_names(node)):
            return False
        work.extend(tree_parts(sort, node))
    return True
