"""Changes that commute, and two rows of changes that are merged."""

from changedsame.deciding import end_of
from changedsame.errors import InvalidChanges, InvalidProgram
from changedsame.infer import is_accepted
from changedsame.leading import check_two, led_over
from changedsame.trees import is_program
from changedsame.works import Work, are_changes, does_take_all, replayed

MOST_MERGED = 12


def commute(program, change, other):
    """Whether two changes are taken of a program, and commute."""
    check_two(program, change, other)
    return commuted(program, change, other) is not None


def commuted(program, change, other):
    """The tuple (both changes, each led over the other one, the program behind the first), None if they do not."""
    near, far = end_of(program, change), end_of(program, other)
    if near is None or far is None:
        return None
    led_change = led_over(program, change, other, far)
    led_other = led_over(program, other, change, near)
    if led_change is None or led_other is None:
        return None
    result = end_of(far, led_change)
    return (led_change, led_other, near) if result is not None and result == end_of(near, led_other) else None


def merged(program, changes, others):
    """("merged", the program, the merged row), or ("apart", the positions of the first pair that doesn't commute)."""
    if not is_program(program):
        raise InvalidProgram(program)
    if not is_row(program, changes):
        raise InvalidChanges(changes)
    if not is_row(program, others):
        raise InvalidChanges(others)
    work, other_work = replayed(program, changes), replayed(program, others)
    row = list(changes)
    for place, other in enumerate(others):
        told = row_over(other_work.at(place), row, other)
        if told[0] == "apart":
            return ("apart", told[1], place)
        _, row, led_other = told
        work.apply(led_other)
    return ("merged", work.newest(), tuple(work.changes()))


def is_row(program, value):
    """Whether any value is a list of changes, each taken behind the ones ahead if the program is accepted at all."""
    if not are_changes(value, MOST_MERGED):
        return False
    return not is_accepted(program) or does_take_all(Work(program), value)


def row_over(program, changes, other):
    """("led", the list of a row's changes led over another one, that one led over the row), or ("apart", position)."""
    row = []
    for position, change in enumerate(changes):
        told = commuted(program, change, other)
        if told is None:
            return ("apart", position)
        led_change, other, program = told
        row.append(led_change)
    return ("led", row, other)
