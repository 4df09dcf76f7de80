"""Numbers that are wrapped, and stores of cells."""

from changedsame.basics import GREATEST, LEAST, is_count, is_integer
from changedsame.errors import InvalidCell, InvalidField, InvalidFields, InvalidNumber, InvalidRoots, InvalidSort
from changedsame.errors import InvalidSpot, InvalidStore
from changedsame.matches import is_plain

ROUND = 4294967296
MOST_ROOTS = 200

# How many fields a cell of each kind may have, at least and at most.
FIELDS = {"ref": (1, 1), "array": (0, 64), "closure": (0, 40)}


def wrapped(number):
    """The number of the language that an integer is wrapped to."""
    if not is_integer(number):
        raise InvalidNumber(number)
    return wrap(number)


def wrap(number):
    """The same of what is known to be an integer."""
    if LEAST <= number <= GREATEST:
        return number
    return (number - LEAST) % ROUND + LEAST


class Store:
    """A plain store, which changes: cells that are numbered from 0 and never freed."""

    def __init__(self):
        self.kinds = []
        self.held = []

    @property
    def many(self):
        """How many cells there are."""
        return len(self.kinds)

    def make(self, kind, fields):
        """Makes a cell; its number."""
        if not isinstance(kind, str) or kind not in FIELDS:
            raise InvalidSort(kind)
        least, most = FIELDS[kind]
        if not isinstance(fields, (list, tuple)) or not least <= len(fields) <= most:
            raise InvalidFields(fields)
        if not all([is_value_of(self, field) for field in fields]):
            raise InvalidFields(fields)
        return new_cell(self, kind, fields)

    def kind_of(self, cell):
        """The kind of a cell."""
        if not is_cell_of(self, cell):
            raise InvalidCell(cell)
        return self.kinds[cell]

    def fields(self, cell):
        """The list of a cell's fields."""
        if not is_cell_of(self, cell):
            raise InvalidCell(cell)
        return list(self.held[cell])

    def put(self, cell, spot, value):
        """Sets a field of a ref or an array."""
        if not is_cell_of(self, cell) or self.kinds[cell] == "closure":
            raise InvalidCell(cell)
        if not is_count(spot) or spot >= len(self.held[cell]):
            raise InvalidSpot(spot)
        if not is_value_of(self, value):
            raise InvalidField(value)
        self.held[cell][spot] = value


def new_cell(store, kind, fields):
    """Changes the store: makes a cell of fields that are known to be right; its number."""
    store.kinds.append(kind)
    store.held.append(list(fields))
    return len(store.kinds) - 1


def is_cell_of(store, value):
    """Whether any value is the number of a cell of the store."""
    return is_count(value) and value < len(store.kinds)


def is_value_of(store, value):
    """Whether any value is a plain value whose cells are all cells of the store."""
    return is_plain(value) and all([is_cell_of(store, cell) for cell in cells_in([value])])


def cells_in(values):
    """The list of the numbers of the cells that stand in some plain values."""
    found = []
    work = list(values)
    while work:
        node = work.pop()
        if node[0] == "cell":
            found.append(node[1])
        elif node[0] == "tuple":
            work.extend(node[1])
        elif node[0] == "con" and node[2] is not None:
            work.append(node[2])
    return found


def reachable(store, roots):
    """The rising list of the cells that are reached from some values of the store."""
    if not isinstance(store, Store):
        raise InvalidStore(store)
    if not isinstance(roots, (list, tuple)) or len(roots) > MOST_ROOTS:
        raise InvalidRoots(roots)
    if not all([is_value_of(store, root) for root in roots]):
        raise InvalidRoots(roots)
    seen = {}
    work = cells_in(roots)
    while work:
        cell = work.pop()
        if cell not in seen:
            seen[cell] = True
            work.extend(cells_in(store.held[cell]))
    return sorted(seen)
