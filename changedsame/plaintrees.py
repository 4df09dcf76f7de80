"""The plain tree of some patterns, and what it tells of them."""

from changedsame.errors import TooMany
from changedsame.knowing import can_match, first_open, key_in, with_key, without_keys
from changedsame.matches import is_plain

MOST_TESTS = 400
MOST_ON_A_WAY = 36


class Builder:
    """Makes the plain tree of some patterns that fit, and keeps what is known at each "fail"."""

    def __init__(self, board, patterns):
        self.board = board
        self.patterns = list(patterns)
        self.tests = 0
        self.fails = []

    def tree(self, known, above):
        """The tree for values of which this is known, below so many tests."""
        able = [position for position, pattern in enumerate(self.patterns) if can_match(pattern, known)]
        if not able:
            self.fails.append(known)
            return ("fail",)
        asked = first_open(self.board, self.patterns[able[0]], known)
        if not asked:
            return ("leaf", able[0])
        self.tests += 1
        if self.tests > MOST_TESTS or above == MOST_ON_A_WAY:
            raise TooMany("tests", MOST_TESTS)
        place, kind = asked
        keys = self.test_keys(able, place, kind)
        branches = [(key, self.tree(with_key(known, place, key), above + 1)) for key in keys]
        default = None
        whole = self.board.keys_at(place)
        if whole is None or len(keys) < len(whole):
            default = self.tree(without_keys(known, place, keys), above + 1)
        return ("test", place, kind, tuple(branches), default)

    def test_keys(self, able, place, kind):
        """The keys of a test: of a bool both, else those that the patterns that can match ask for."""
        if kind == "bool":
            return [False, True]
        found = {}
        for position in able:
            for key in key_in(self.patterns[position], place):
                found[key] = True
        return list(found)


def leaves_in(tree):
    """A dict of the positions of a tree's leaves."""
    found = {}
    work = [tree]
    while work:
        node = work.pop()
        if node[0] == "leaf":
            found[node[1]] = True
        elif node[0] == "test":
            work.extend([branch[1] for branch in node[3]])
            work.extend([] if node[4] is None else [node[4]])
    return found


def shape_of(board, known):
    """A shape of which this is known, as small as can be: holes where nothing is."""
    table = {}
    for place in known:
        table[place] = free_key(board, known, place)
    return shape_at(board, table, ())


def free_key(board, known, place):
    """A key that may be at a place: of constructors one without an argument, if there is one."""
    told, key = known[place]
    if told:
        return key
    keys = board.keys_at(place)
    if keys is None:
        return [number for number in range(len(key) + 1) if number not in key][0]
    left = [other for other in keys if other not in key]
    alone = [other for other in left if isinstance(other, bool) or not board.has_argument(other)]
    return (alone + left)[0]


def shape_at(board, table, place):
    """The part of the shape at a place; the table tells keys at places."""
    many = len(place)
    if not [path for path in table if path[:many] == place]:
        return ("cell", 0)
    sort = board.sorts[place]
    if sort[0] == "tuple":
        return ("tuple", tuple([shape_at(board, table, place + (k,)) for k in range(sort[1])]))
    if sort[0] != "con":
        return (sort[0], table[place])
    con = table[place] if place in table else board.keys_at(place)[0]
    if not board.has_argument(con):
        return ("con", con, None)
    return ("con", con, shape_at(board, table, place + (con,)))


def full_shape(board, known):
    """A shape of which this is known, with all tuples and constructors that are sure to be there."""
    table = {}
    for place in known:
        table[place] = free_key(board, known, place)
    return full_at(board, table, ())


def full_at(board, table, place):
    """The part of the full shape at a place; the table tells keys at places."""
    sort = board.sorts.get(place, ("cell",))
    if sort[0] == "tuple":
        return ("tuple", tuple([full_at(board, table, place + (k,)) for k in range(sort[1])]))
    if sort[0] == "unit":
        return ("unit",)
    keys = [table[place]] if place in table else board.keys_at(place) if sort[0] == "con" else None
    if keys is None or len(keys) > 1:
        return ("cell", 0)
    if sort[0] != "con":
        return (sort[0], keys[0])
    con = keys[0]
    return ("con", con, full_at(board, table, place + (con,)) if board.has_argument(con) else None)


def open_shape(builder):
    """A shape that leads to a "fail" of the tree that was made, None if it has none."""
    shapes = []
    for known in builder.fails:
        shapes.append(shape_of(builder.board, known))
        if is_plain(shapes[-1]):
            return shapes[-1]
    return shapes[0] if shapes else None
