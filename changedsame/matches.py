"""Plain values, and patterns that match them."""

from changedsame.basics import is_count, word_of
from changedsame.errors import InvalidPattern, InvalidPatterns, InvalidValue
from changedsame.measures import is_within
from changedsame.nodes import bool_parts, con_parts, int_parts, lone_parts, tuple_parts
from changedsame.sizes import MOST_DEPTH, MOST_PARTS
from changedsame.trees import is_pattern

MOST_PATTERNS = 8


def plain_parts(kind, value):
    """The plain values in a plain value, as the reader of `measured` tells them."""
    word = word_of(value)
    if word == "cell":
        return [] if len(value) == 2 and is_count(value[1]) else None
    if word == "int":
        return int_parts(value, kind)
    if word == "bool":
        return bool_parts(value, kind)
    if word == "unit":
        return lone_parts(value, kind)
    if word == "con":
        return con_parts(value, kind)
    return tuple_parts(value, kind) if word == "tuple" else None


def is_plain(value):
    """Whether any value is a plain value."""
    return is_within(plain_parts, "plain", value, MOST_PARTS, MOST_DEPTH)


def are_patterns(value):
    """Whether any value is a list of one to eight patterns."""
    if not isinstance(value, (list, tuple)) or not 1 <= len(value) <= MOST_PATTERNS:
        return False
    return all([is_pattern(pattern) for pattern in value])


def bindings(pattern, value):
    """The list of the tuples (name, value) of a pattern that matches, None if it does not."""
    if not is_pattern(pattern):
        raise InvalidPattern(pattern)
    if not is_plain(value):
        raise InvalidValue(value)
    return bound_by(pattern, value)


def bound_by(pattern, value):
    """The same of a pattern and a value that are known to be such."""
    found = []
    work = [(pattern, value)]
    while work:
        node, given = work.pop()
        if node[0] == "bind":
            found.append((node[1], given))
        elif node[0] != "any":
            pairs = inner_pairs(node, given)
            if pairs is None:
                return None
            work.extend(pairs[::-1])
    return found


def inner_pairs(pattern, value):
    """The pairs of what stands in a pattern and in a value of the same form, None if they are unlike."""
    word = pattern[0]
    if word != value[0]:
        return None
    if word == "tuple":
        return list(zip(pattern[1], value[1])) if len(pattern[1]) == len(value[1]) else None
    if word == "con" and pattern[1] == value[1]:
        if pattern[2] is None or value[2] is None:
            return [] if pattern[2] is None and value[2] is None else None
        return [(pattern[2], value[2])]
    return [] if pattern == value else None


def first_rule(patterns, value):
    """The position of the first pattern that matches, None if none does."""
    if not are_patterns(patterns):
        raise InvalidPatterns(patterns)
    if not is_plain(value):
        raise InvalidValue(value)
    for position, pattern in enumerate(patterns):
        if bound_by(pattern, value) is not None:
            return position
    return None
