"""What is known of a value: a dict from places to (True, key), or to (False, the keys that it is none of)."""

from changedsame.fitting import inner_places

KEYED = ("int", "bool", "con")


def key_tuple(board, known, place):
    """A tuple with the key that is surely at a place, empty if more than one may be."""
    told = known.get(place)
    if told is not None and told[0]:
        return (told[1],)
    keys = board.keys_at(place)
    if keys is None:
        return ()
    left = [key for key in keys if told is None or key not in told[1]]
    return (left[0],) if len(left) == 1 else ()


def may_be(known, place, key):
    """Whether a key may be at a place, as far as it is known there."""
    told = known.get(place)
    if told is None:
        return True
    return told[1] == key if told[0] else key not in told[1]


def with_key(known, place, key):
    """What is known once this key is at the place."""
    inner = {path: known[path] for path in known}
    inner[place] = (True, key)
    return inner


def without_keys(known, place, keys):
    """What is known once none of these keys is at the place."""
    told = known.get(place)
    inner = {path: known[path] for path in known}
    inner[place] = (False, tuple(keys) if told is None else told[1] + tuple(keys))
    return inner


def can_match(pattern, known):
    """Whether a pattern matches some value of which this is known."""
    work = [((), pattern)]
    while work:
        place, node = work.pop()
        if node[0] in KEYED and not may_be(known, place, node[1]):
            return False
        work.extend(inner_places(node, place))
    return True


def first_open(board, pattern, known):
    """A tuple of the first place at which a pattern that can match asks for what is not known, and the kind.

    It is empty if the pattern is sure to match.
    """
    work = [((), pattern)]
    while work:
        place, node = work.pop()
        if node[0] in KEYED and key_tuple(board, known, place) != (node[1],):
            return (place, node[0])
        work.extend(inner_places(node, place)[::-1])
    return ()


def key_in(pattern, place):
    """A tuple with the key for which a pattern asks at a place, empty if it asks for none."""
    node = pattern
    for step in place:
        inside = {path[-1]: part for path, part in inner_places(node, ())}
        if step not in inside:
            return ()
        node = inside[step]
    return (node[1],) if node[0] in KEYED else ()
