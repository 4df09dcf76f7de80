"""Loose types and schemes."""

from changedsame.basics import is_count
from changedsame.errors import InvalidLoose, InvalidScheme
from changedsame.looses import can_lead, leaves_of, loose_parts, put_for_leaves
from changedsame.measures import measured
from changedsame.writeexprs import written_items
from changedsame.writing import written_text

MOST_TYPES = 200
LETTERS = "abcdefghijklmnopqrstuvwxyz"


def is_made(kind, value):
    """Whether any value is a type of a kind, with no more parts than the limit."""
    found = measured(loose_parts, kind, value, MOST_TYPES)
    return found is not None and found[0] <= MOST_TYPES


def is_loose(value):
    """Whether any value is a loose type."""
    return is_made("loose", value)


def is_scheme(value):
    """Whether any value is a scheme."""
    if not isinstance(value, tuple) or len(value) != 2:
        return False
    if not is_count(value[0]) or not is_made("scheme", value[1]):
        return False
    found = leaves_of(value[1], "param")
    return value[0] == len(found) and found == list(range(len(found)))


def unknowns_of(loose):
    """The list of the numbers of a type's unknowns, each once, by their first places."""
    if not is_loose(loose):
        raise InvalidLoose(loose)
    return leaves_of(loose, "unknown")


def general(loose):
    """The scheme with parameters in the places of all unknowns."""
    if not is_loose(loose):
        raise InvalidLoose(loose)
    return generalized(loose)


def generalized(loose):
    """The same of a type that is known to be loose."""
    found = leaves_of(loose, "unknown")
    table = {number: ("param", k) for k, number in enumerate(found)}
    return (len(found), put_for_leaves(loose, "unknown", table))


def is_instance(scheme, loose):
    """Whether a loose type is one of a scheme's instances."""
    if not is_scheme(scheme):
        raise InvalidScheme(scheme)
    if not is_loose(loose):
        raise InvalidLoose(loose)
    return can_lead([(scheme[1], loose)], "param")


def scheme_text(scheme):
    """A scheme's type as it is written, with letters for the parameters."""
    if not is_scheme(scheme):
        raise InvalidScheme(scheme)
    many = len(LETTERS)
    names = [LETTERS[k % many] + (str(k // many) if k >= many else "") for k in range(scheme[0])]
    table = {k: ("param", name) for k, name in enumerate(names)}
    return written_text(written_items, put_for_leaves(scheme[1], "param", table))
