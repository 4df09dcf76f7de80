"""Counting the parts of trees, however deep these are."""


def measured(reader, kind, value, limit):
    """The number of parts and the depth as a tuple, None if some part is made as none is.

    The reader tells of a kind and a value the tuples (kind, value) of what stands in it, or None.
    It stops once there are more parts than the limit, as a value may hold the same part ever so often.
    """
    parts = 0
    deepest = 0
    work = [(kind, value, 1)]
    while work and parts <= limit:
        sort, node, depth = work.pop()
        found = reader(sort, node)
        if found is None:
            return None
        parts += 1
        deepest = max(deepest, depth)
        for inner_sort, inner in found:
            work.append((inner_sort, inner, depth + 1))
    return (parts, deepest)


def is_within(reader, kind, value, parts, depth):
    """Whether any value is made as told, with at most so many parts and at most so deep."""
    found = measured(reader, kind, value, parts)
    return found is not None and found[0] <= parts and found[1] <= depth
