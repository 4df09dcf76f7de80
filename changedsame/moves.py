"""Declarations of values that go to another position or module."""

from changedsame.basics import is_count, word_of
from changedsame.errors import InvalidChange, InvalidPlace
from changedsame.finding import is_value
from changedsame.rewriting import rewritten
from changedsame.senses import occurrences, place_of, senses
from changedsame.spots import decls_of, found_at
from changedsame.verdicts import verdict, with_wholes
from changedsame.wholes import resolved

MOST_DECLS = 20
MOST_SHOWS = 40


class Move:
    """Where a declaration is, what it declares, and where it goes."""

    def __init__(self, program, change):
        _, name, module, position = change
        homes = [told[1] for told in program]
        source, _, short = name.partition(".")
        self.source = homes.index(source)
        self.decl_at = [k for k, decl in enumerate(program[self.source][3]) if short in declared_values(decl)][0]
        self.decl = program[self.source][3][self.decl_at]
        self.target = homes.index(module)
        self.position = position
        self.homes = homes

    def behind(self, place):
        """The place in the plain result of what stands at a place."""
        at, k = place[:2]
        if (at, k) == (self.source, self.decl_at):
            return (self.target, self.position) + place[2:]
        if at == self.source and k > self.decl_at:
            k = k - 1
        if at == self.target and k >= self.position:
            k = k + 1
        return (at, k) + place[2:]

    def new_wholes(self):
        """A dict from (kind, whole name) to the new whole name, of the values that go."""
        old, new = self.homes[self.source], self.homes[self.target]
        return {("value", f"{old}.{name}"): f"{new}.{name}" for name in declared_values(self.decl)}


def declared_values(decl):
    """The list of the values that a declaration declares."""
    if decl[0] == "rec":
        return [member[0] for member in decl[1]]
    return [decl[1]] if decl[0] == "let" else []


def is_move(program, value):
    """Whether any value is a move that fits the program."""
    return does_fit(program, resolved(program), value)


def does_fit(program, whole, value):
    """The same with the Whole of the program."""
    if word_of(value) != "move" or len(value) != 4 or not is_count(value[3]):
        return False
    if value[1] not in whole.value_names() or value[2] not in [module[1] for module in program]:
        return False
    move = Move(program, value)
    if move.decl[0] == "let" and not is_value(move.decl[2]):
        return False
    many = len(program[move.target][3]) - (1 if move.target == move.source else 0)
    shows = new_shows(program, move)[move.target]
    return value[3] <= many < MOST_DECLS and (shows is None or len(shows) <= MOST_SHOWS)


def checked(program, change):
    """The Whole of a program; raises what is wrong with it, or with the change."""
    whole = resolved(program)
    if not does_fit(program, whole, change):
        raise InvalidChange(change)
    return whole


def moved_plain(program, change):
    """The plain result of a move."""
    whole = checked(program, change)
    return plain_result(program, whole, Move(program, change))


def place_behind(program, change, place):
    """The place in the plain result of what stands at a place of the program, or of a declaration."""
    checked(program, change)
    if found_at(program, place) is None and not is_decl_place(program, place):
        raise InvalidPlace(place)
    return Move(program, change).behind(place)


def is_decl_place(program, value):
    """Whether any value is the place of a declaration."""
    if not isinstance(value, tuple) or not all([is_count(step) for step in value]):
        return False
    return value in [place for place, _ in decls_of(program)]


def plain_result(program, whole, move):
    """The plain result of a move that is known to fit."""
    result = rewritten(program, new_names(program, whole, move), {})
    decl = result[move.source][3][move.decl_at]
    shows = new_shows(program, move)
    told = []
    for at, module in enumerate(result):
        decls = list(module[3])
        if at == move.source:
            del decls[move.decl_at]
        if at == move.target:
            decls.insert(move.position, decl)
        told.append(("module", module[1], shows[at], tuple(decls)))
    return tuple(told)


def new_names(program, whole, move):
    """A dict of the names in a program that are written otherwise after a move."""
    table = move.new_wholes()
    used = {}
    for place, k, kind, _, meaning in occurrences(program, whole):
        is_inside = place[:2] == (move.source, move.decl_at)
        if not isinstance(meaning, tuple) and (is_inside or (kind, meaning) in table):
            home = move.homes[move.target if is_inside else place[0]]
            used[(place, k)] = seen_from(home, table.get((kind, meaning), meaning))
    return used


def seen_from(home, name):
    """A whole name as it is written in a module; a module may have the name of one of the base's constructors."""
    module, _, short = name.partition(".")
    return short if short and module == home else name


def new_shows(program, move):
    """The list of the shows of all modules after a move."""
    shows = [module[2] for module in program]
    if move.source == move.target:
        return shows
    names = declared_values(move.decl)
    source, target = shows[move.source], shows[move.target]
    gone = [name for name in names if source is None or name in source]
    if source is not None:
        shows[move.source] = tuple([name for name in source if name not in names])
    if target is not None:
        shows[move.target] = target + tuple([name for name in gone if name not in target])
    return shows


def decided_move(program, change):
    """("taken", the plain result), or ("refused", the reason)."""
    whole = checked(program, change)
    move = Move(program, change)
    table = move.new_wholes()
    wanted = []
    for sense in senses(program, whole):
        place, kind, meaning = with_wholes(sense, table)
        if kind == "value" and isinstance(meaning, tuple):
            meaning = ("local", move.behind(meaning[1]), meaning[2])
        wanted.append((move.behind(place), kind, meaning))
    return verdict(plain_result(program, whole, move), sorted(wanted, key=place_of))
