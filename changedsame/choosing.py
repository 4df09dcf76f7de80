"""Which rules values go to by two lists of patterns, and when rules have one meaning.

A way is a tuple (what is known of the values that go it, position, other position), None for no rule.
"""

from changedsame.decisions import ways_from
from changedsame.fitting import fitting_board, inner_places
from changedsame.names import are_like
from changedsame.plaintrees import Builder


def ways_through(makers, patterns, others):
    """The tuple (board, list of all ways) of two lists of patterns; None if they don't fit together."""
    board = fitting_board(makers, list(patterns) + list(others))
    if board is None:
        return None
    near, far = Builder(board, patterns).tree({}, 0), Builder(board, others).tree({}, 0)
    found = []
    for end, known in ends_of(board, near, {}):
        for other_end, told in ends_of(board, far, known):
            found.append((told, position_of(end), position_of(other_end)))
    return (board, found)


def ends_of(board, tree, known):
    """The list of the tuples (end of a tree, what is known there) to which some value goes of which this is known."""
    if tree[0] != "test":
        return [(tree, known)]
    found = []
    for inner, told in ways_from(board, known, tree):
        found.extend(ends_of(board, inner, told))
    return found


def position_of(end):
    """The position that an end of a tree tells."""
    return end[1] if end[0] == "leaf" else None


def first_ways(ways):
    """The ways of which no one ahead leads to the same positions."""
    seen = {}
    found = []
    for way in ways:
        if way[1:] not in seen:
            seen[way[1:]] = True
            found.append(way)
    return found


def bound_places(pattern):
    """A dict of the names that a pattern binds, with their places in the value."""
    found = {}
    work = [((), pattern)]
    while work:
        place, node = work.pop()
        if node[0] == "bind":
            found[node[1]] = place
        work.extend(inner_places(node, place))
    return found


def are_like_rules(rule, other):
    """Whether two rules have one meaning."""
    near, far = bound_places(rule[0]), bound_places(other[0])
    spots = list({place: True for place in list(near.values()) + list(far.values())})
    return are_like(rule[1], other[1], names_at(near, spots), names_at(far, spots))


def names_at(bound, spots):
    """The tuple of the names that are bound at some places, "" where none is."""
    names = {bound[name]: name for name in bound}
    return tuple([names.get(place, "") for place in spots])


def are_like_ways(way, rules, others):
    """Whether a way leads to none by both lists of rules, or to rules of one meaning."""
    _, k, other = way
    if k is None or other is None:
        return k is None and other is None
    return are_like_rules(rules[k], others[other])
