"""Types with unknowns: how they are made, taken apart and made anew."""

from changedsame.basics import is_count, word_of
from changedsame.nodes import closed_parts


def loose_parts(kind, value):
    """The types in a type that may have unknowns (of the kind "loose") or numbered parameters ("scheme")."""
    leaf = "unknown" if kind == "loose" else "param"
    if word_of(value) == leaf:
        return [] if len(value) == 2 and is_count(value[1]) else None
    return closed_parts(value, kind)


def inner_types(loose):
    """The tuple of the types that stand in a type, itself left out."""
    word = loose[0]
    if word == "tuple":
        return loose[1]
    if word == "data":
        return loose[2]
    if word in ("fun", "ref", "array"):
        return loose[1:]
    return ()


def with_inner(loose, parts):
    """The type with other types, as many, in the place of those that stand in it."""
    word = loose[0]
    if word == "tuple":
        return ("tuple", tuple(parts))
    if word == "data":
        return ("data", loose[1], tuple(parts))
    return (word,) + tuple(parts)


def are_headed_alike(one, other):
    """Whether two types without the types in them are alike."""
    if one[0] != other[0] or len(inner_types(one)) != len(inner_types(other)):
        return False
    return one[1] == other[1] if one[0] in ("data", "unknown", "param") else True


def leaves_of(loose, word):
    """The list of the second parts of the leaves that begin with a word, each once, from left to right."""
    found = {}
    work = [loose]
    while work:
        node = work.pop()
        if node[0] == word:
            found[node[1]] = True
        work.extend(inner_types(node)[::-1])
    return list(found)


def can_lead(pairs, word):
    """Whether one type can be put for each leaf that begins with a word, so that all first types become the others."""
    found = {}
    work = list(pairs)
    while work:
        told, given = work.pop()
        if told[0] == word:
            if found.setdefault(told[1], given) != given:
                return False
        elif are_headed_alike(told, given):
            work.extend(list(zip(inner_types(told), inner_types(given))))
        else:
            return False
    return True


def put_for_leaves(loose, word, table):
    """The type with other ones in the place of the leaves that begin with a word and that the table tells."""
    out = []
    work = [(loose, False)]
    while work:
        node, is_opened = work.pop()
        inside = inner_types(node)
        if is_opened:
            many = len(out) - len(inside)
            parts = out[many:]
            del out[many:]
            out.append(with_inner(node, parts))
        elif inside:
            work.append((node, True))
            work.extend([(part, False) for part in inside[::-1]])
        elif node[0] == word and node[1] in table:
            out.append(table[node[1]])
        else:
            out.append(node)
    return out[0]
