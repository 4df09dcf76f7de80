"""Names of a changed program that come from places of the program it was, and what they ought to mean.

An origin is a tuple (old place, new place, pairs): what stood at the old place, with all within it, has come to the
new one; the pairs (old binder, new binder) are of binders that have become others.
"""

from changedsame.senses import senses
from changedsame.wholes import whole_of


def moved_binder(meaning, origin):
    """What a name of an origin ought to mean that meant this."""
    old, new, pairs = origin
    if not isinstance(meaning, tuple):
        return meaning
    for was, told in pairs:
        if was == meaning:
            return told
    if meaning[1][:len(old)] == old:
        return ("local", new + meaning[1][len(old):], meaning[2])
    return meaning


def wanted_meanings(program, origins):
    """A dict from new places to what stands there ought to mean."""
    wanted = {}
    told = senses(program, whole_of(program))
    for origin in origins:
        old, new, _ = origin
        for place, kind, meaning in told:
            if place[:len(old)] == old:
                is_value = kind == "value"
                wanted[new + place[len(old):]] = moved_binder(meaning, origin) if is_value else meaning
    return wanted


def clash_behind(program, origins, result):
    """The first place of a resolved result where what comes from origins means otherwise, as a reason; None if none."""
    wanted = wanted_meanings(program, origins)
    for place, _, meaning in senses(result, whole_of(result)):
        if place in wanted and wanted[place] != meaning:
            return ("clash", place, wanted[place], meaning)
    return None
