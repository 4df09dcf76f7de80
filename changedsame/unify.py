"""Replacements, and those that make two loose types one."""

from changedsame.basics import is_count
from changedsame.errors import InvalidLoose, InvalidReplacement
from changedsame.kinds import is_loose
from changedsame.looses import can_lead, leaves_of, put_for_leaves
from changedsame.solving import Solver

MOST_REPLACED = 60


def is_replacement(value):
    """Whether any value is a replacement, of however many unknowns."""
    if not isinstance(value, (list, tuple)):
        return False
    seen = {}
    for part in value:
        if not isinstance(part, tuple) or len(part) != 2:
            return False
        if not is_count(part[0]) or part[0] in seen or not is_loose(part[1]):
            return False
        seen[part[0]] = True
    return True


def table_of(parts):
    """A replacement as a dict."""
    return {part[0]: part[1] for part in parts}


def replaced(loose, parts):
    """The loose type that a replacement makes."""
    if not is_loose(loose):
        raise InvalidLoose(loose)
    if not is_replacement(parts) or len(parts) > MOST_REPLACED:
        raise InvalidReplacement(parts)
    return put_for_leaves(loose, "unknown", table_of(parts))


def check_both(one, other):
    """Raises the error of the first of both that is no loose type."""
    if not is_loose(one):
        raise InvalidLoose(one)
    if not is_loose(other):
        raise InvalidLoose(other)


def unified(one, other):
    """A most general replacement that unifies both, None if none does."""
    check_both(one, other)
    return most_general(one, other)


def most_general(one, other):
    """The same of two types that are known to be loose: none of the unknowns that it tells stays."""
    solver = Solver()
    if not solver.has_made_one(one, other):
        return None
    numbers = leaves_of(("fun", one, other), "unknown")
    parts = [(number, solver.known(("unknown", number))) for number in numbers]
    return [part for part in parts if part[1] != ("unknown", part[0])]


def is_unifier(one, other, value):
    """Whether any value is a replacement that unifies both."""
    check_both(one, other)
    return does_unify(one, other, value)


def does_unify(one, other, value):
    """The same of two types that are known to be loose."""
    if not is_replacement(value):
        return False
    table = table_of(value)
    return put_for_leaves(one, "unknown", table) == put_for_leaves(other, "unknown", table)


def is_most_general(one, other, value):
    """Whether any value is a most general replacement that unifies both."""
    check_both(one, other)
    if not does_unify(one, other, value):
        return False
    return leads_to(table_of(value), table_of(most_general(one, other)))


def leads_to(table, other):
    """Whether the first replacement, followed by a further one, does to each unknown what the other one does.

    Unknowns that neither tells, nor puts anywhere, stay as they are by both.
    """
    numbers = {}
    for replacement in (table, other):
        for number in replacement:
            numbers.update({inner: True for inner in leaves_of(replacement[number], "unknown")})
            numbers[number] = True
    pairs = []
    for number in numbers:
        stays = ("unknown", number)
        pairs.append((table.get(number, stays), other.get(number, stays)))
    return can_lead(pairs, "unknown")
