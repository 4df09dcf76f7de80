"""Changes of a part of a program at its place."""

from changedsame.errors import InvalidChange, InvalidProgram, NotAccepted
from changedsame.infer import is_accepted
from changedsame.newparts import is_part_change, new_part_of
from changedsame.places import put_within
from changedsame.trees import is_program


def new_part(program, change):
    """("part", the new part) of a change, or ("clash", the first place at which it clashes)."""
    check_change(program, change)
    told = new_part_of(program, change)
    if told[0] == "part":
        put_within(program, change[1], told[1])
    return told


def check_change(program, change):
    """Raises what is wrong with a program, or with a change of one of its parts."""
    if not is_program(program):
        raise InvalidProgram(program)
    if not is_part_change(program, change):
        raise InvalidChange(change)
    if not is_accepted(program):
        raise NotAccepted()
