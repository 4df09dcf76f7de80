"""Places of values, and the sorts that patterns ask for there."""

WORDS = ("int", "bool", "unit")


class Board:
    """The sorts that some patterns have at places, and the constructors of a whole program.

    A sort is a tuple: ("int",), ("bool",), ("unit",), ("tuple", many), or ("con", type).
    """

    def __init__(self, makers):
        self.sorts = {}
        self.makers = {maker[0]: (maker[1], maker[3] is not None) for maker in makers}
        self.kin = {}
        for maker in makers:
            self.kin[maker[1]] = self.kin.get(maker[1], []) + [maker[0]]

    def has_argument(self, con):
        return self.makers[con][1]

    def sort_of_node(self, node):
        """The sort of a pattern or a value that is made somehow; None if it is none that can be there."""
        word = node[0]
        if word in WORDS:
            return (word,)
        if word == "tuple":
            return ("tuple", len(node[1]))
        if word != "con" or node[1] not in self.makers:
            return None
        sort, wants = self.makers[node[1]]
        return ("con", sort) if wants == (node[2] is not None) else None

    def keys_at(self, place):
        """The tuple of all keys that may be at a place of a sort, None of numbers and of what has no keys."""
        sort = self.sorts[place]
        if sort[0] == "con":
            return tuple(self.kin[sort[1]])
        return (False, True) if sort[0] == "bool" else None


def inner_places(node, place):
    """The tuples (place, node) of what stands in a pattern or a value at a place, from left to right."""
    if node[0] == "tuple":
        return [(place + (k,), part) for k, part in enumerate(node[1])]
    if node[0] == "con" and node[2] is not None:
        return [(place + (node[1],), node[2])]
    return []


def fitting_board(makers, patterns):
    """The board of some patterns, None if they don't fit."""
    board = Board(makers)
    work = [((), pattern) for pattern in patterns]
    while work:
        place, node = work.pop()
        if node[0] not in ("any", "bind"):
            sort = board.sort_of_node(node)
            if sort is None or board.sorts.setdefault(place, sort) != sort:
                return None
            work.extend(inner_places(node, place))
    return board


def does_shape_fit(board, shape):
    """Whether a plain value with holes fits the patterns of a board; a hole is ("cell", 0)."""
    work = [((), shape)]
    while work:
        place, node = work.pop()
        if node != ("cell", 0) and place in board.sorts:
            if board.sort_of_node(node) != board.sorts[place]:
                return False
            work.extend(inner_places(node, place))
    return True


def does_refuse(pattern, shape):
    """Whether a pattern matches a shape that fits with no filling of its holes."""
    work = [(pattern, shape)]
    while work:
        node, given = work.pop()
        if node[0] in ("int", "bool") and given[0] == node[0] and given != node:
            return True
        if node[0] == "con" and given[0] == "con":
            if given[1] != node[1]:
                return True
            if node[2] is not None:
                work.append((node[2], given[2]))
        if node[0] == "tuple" and given[0] == "tuple":
            work.extend(list(zip(node[1], given[1])))
    return False
