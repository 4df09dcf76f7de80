"""Trees that decide which pattern a value goes to."""

from changedsame.basics import is_count, is_long_big, is_number, is_tuple_of, word_of
from changedsame.covers import board_of
from changedsame.errors import InvalidTree, InvalidValue, NotThere
from changedsame.knowing import can_match, first_open, key_tuple, may_be, with_key, without_keys
from changedsame.matches import is_plain
from changedsame.measures import is_within
from changedsame.plaintrees import Builder

MOST_TREES = 4000
DEEPEST_TREE = 40
MOST_BRANCHES = 40


def is_tree(value):
    """Whether any value is a tree."""
    return is_within(branch_parts, "tree", value, MOST_TREES, DEEPEST_TREE)


def branch_parts(kind, value):
    """The trees in a tree, as the reader of `measured` tells them."""
    word = word_of(value)
    if word == "leaf":
        return [] if len(value) == 2 and is_count(value[1]) else None
    if word == "fail":
        return [] if len(value) == 1 else None
    if word != "test" or len(value) != 5 or not is_path(value[1]) or not are_branches(value[2], value[3]):
        return None
    return [(kind, branch[1]) for branch in value[3]] + ([] if value[4] is None else [(kind, value[4])])


def is_path(value):
    """Whether any value is a place in a value."""
    return isinstance(value, tuple) and all([is_count(step) or is_long_big(step) for step in value])


def are_branches(kind, value):
    """Whether any value is the branches of a test of a kind, whatever trees they lead to."""
    if not is_tuple_of(value, 1, MOST_BRANCHES):
        return False
    seen = {}
    for branch in value:
        if not is_tuple_of(branch, 2, 2) or not is_key(kind, branch[0]) or branch[0] in seen:
            return False
        seen[branch[0]] = True
    return True


def is_key(kind, value):
    """Whether any value is a key of a kind, if this is one."""
    if not isinstance(kind, str) or kind not in ("int", "bool", "con"):
        return False
    if kind == "int":
        return is_number(value)
    return isinstance(value, bool) if kind == "bool" else is_long_big(value)


def decide(tree, value):
    """The position to which a tree leads a value, None if it fails."""
    if not is_tree(tree):
        raise InvalidTree(tree)
    if not is_plain(value):
        raise InvalidValue(value)
    node = tree
    while node[0] == "test":
        node = next_tree(node, value)
    return node[1] if node[0] == "leaf" else None


def next_tree(test, value):
    """The tree to which a test leads a value."""
    _, path, kind, branches, default = test
    part = value_at(value, path)
    if part is None or part[0] != kind:
        raise NotThere()
    for key, tree in branches:
        if key == part[1]:
            return tree
    if default is None:
        raise NotThere()
    return default


def value_at(value, path):
    """The part of a value, or of a pattern, at a place, None if the place does not lead to one."""
    node = value
    for step in path:
        if node[0] == "tuple" and is_count(step) and step < len(node[1]):
            node = node[1][step]
        elif node[0] == "con" and node[1] == step and node[2] is not None:
            node = node[2]
        else:
            return None
    return node


def plain_tree(whole, patterns):
    """The plain tree of some patterns."""
    return Builder(board_of(whole, patterns), patterns).tree({}, 0)


def decided(whole, patterns):
    """A right tree for some patterns."""
    return plain_tree(whole, patterns)


def is_decision(whole, patterns, value):
    """Whether any value is a right tree for some patterns."""
    board = board_of(whole, patterns)
    if not is_tree(value):
        return False
    work = [(value, {})]
    while work:
        tree, known = work.pop()
        if tree[0] != "test":
            if not is_right_end(board, patterns, tree, known):
                return False
        elif not is_there(board, known, tree[1], tree[2]):
            return False
        else:
            ways = ways_from(board, known, tree)
            if [way for way in ways if way[0] is None]:
                return False
            work.extend(ways)
    return True


def is_right_end(board, patterns, tree, known):
    """Whether a leaf or a "fail" is right for all values of which this is known."""
    many = tree[1] if tree[0] == "leaf" else len(patterns)
    if many > len(patterns) or [pattern for pattern in patterns[:many] if can_match(pattern, known)]:
        return False
    if tree[0] == "fail":
        return True
    return many < len(patterns) and can_match(patterns[many], known) and not first_open(board, patterns[many], known)


def is_there(board, known, path, kind):
    """Whether a place leads to a part of this kind in all fitting values of which this is known."""
    place = ()
    for step in path:
        sort = board.sorts.get(place)
        if sort is None:
            return False
        if is_count(step):
            if sort[0] != "tuple" or step >= sort[1]:
                return False
        elif sort[0] != "con" or key_tuple(board, known, place) != (step,) or not board.has_argument(step):
            return False
        place = place + (step,)
    return place in board.sorts and board.sorts[place][0] == kind


def ways_from(board, known, test):
    """The tuples (tree, what is known there) for a test's ways that some value goes; the tree may be None."""
    _, path, kind, branches, default = test
    sure = key_tuple(board, known, path)
    whole = sure if sure else board.keys_at(path)
    keys = [branch[0] for branch in branches]
    ways = []
    for key, tree in branches:
        if (whole is None or key in whole) and may_be(known, path, key):
            ways.append((tree, with_key(known, path, key)))
    left = [] if whole is None else [key for key in whole if key not in keys and may_be(known, path, key)]
    if whole is None or left:
        ways.append((default, with_key(known, path, sure[0]) if sure else without_keys(known, path, keys)))
    return ways
