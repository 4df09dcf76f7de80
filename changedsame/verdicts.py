"""Why a change of names or a move is refused: the fault of its plain result, or the first name that means otherwise."""

from changedsame.errors import NotBound, NotShown, Twice, WrongArgument
from changedsame.senses import senses
from changedsame.wholedecls import read_book
from changedsame.wholes import whole_of


def fault_of(program):
    """The fault of a program, be it too large or not, as a reason; None if there is none."""
    try:
        read_book(program)
    except Twice as twice:
        return ("fault", "twice", twice.name)
    except NotBound as unbound:
        return ("fault", "not bound", unbound.name)
    except NotShown as hidden:
        return ("fault", "not shown", hidden.name)
    except WrongArgument as wrong:
        return ("fault", "wrong argument", wrong.name)
    return None


def clash_of(wanted, program):
    """The first place at which the senses of a resolved program are not those that are wanted, as a reason, or None."""
    for sense, told in zip(wanted, senses(program, whole_of(program))):
        if sense != told:
            return ("clash", told[0], sense[2], told[2])
    return None


def verdict(program, wanted):
    """Whether a plain result is taken that ought to have these senses."""
    fault = fault_of(program)
    if fault is not None:
        return ("refused", fault)
    clash = clash_of(wanted, program)
    return ("taken", program) if clash is None else ("refused", clash)


def with_wholes(sense, table):
    """A sense with other whole names, as a dict of (kind, whole name) tells."""
    place, kind, meaning = sense
    if kind == "value" or kind == "con":
        return sense if isinstance(meaning, tuple) else (place, kind, table.get((kind, meaning), meaning))
    single = "con" if kind == "cons" else "sort"
    return (place, kind, tuple([table.get((single, name), name) for name in meaning]))
