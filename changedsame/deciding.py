"""All changes, decided: what is taken comes with a paper, what is refused with a reason."""

from changedsame.caserules import is_change_by_form
from changedsame.cases import told_case
from changedsame.changeforms import is_change_form
from changedsame.checker import MOST_STEPS, led_by
from changedsame.errors import InvalidChange, InvalidConstructor, InvalidPath, InvalidPlace, InvalidProgram, InvalidRule
from changedsame.errors import NotAccepted, TooMany
from changedsame.functions import decided_function, is_function_change
from changedsame.infer import is_accepted
from changedsame.moves import decided_move, is_move
from changedsame.newparts import is_part_change
from changedsame.renames import decided_rename, is_rename
from changedsame.replaces import decided_straight
from changedsame.shapes import told_shape
from changedsame.spots import found_at
from changedsame.trails import flip_paper, fold_paper, part_paper, unfold_paper
from changedsame.trees import is_program

UNFIT = ("refused", ("place",))

FUNCTION_WORDS = ("unfold", "fold", "flip")


def is_change(value):
    """Whether any value is a change, by its form."""
    return is_change_form(value)


def decided(program, change):
    """("taken", the program to which the change comes, a paper), or ("refused", the reason)."""
    if not is_program(program):
        raise InvalidProgram(program)
    if not is_change_form(change):
        raise InvalidChange(change)
    if not is_accepted(program):
        raise NotAccepted()
    try:
        told = told_of(program, change)
    except (TooMany, InvalidPlace, InvalidRule, InvalidPath, InvalidConstructor):
        return UNFIT
    if told[0] == "taken" and (len(told[2]) > MOST_STEPS or led_by(program, told[2]) != (told[1], None)):
        return UNFIT
    return told


def told_of(program, change):
    """The same, the paper being what it may be."""
    word = change[0]
    if word == "move":
        told = decided_move(program, change) if is_move(program, change) else UNFIT
        return told + ([("moved", (), change)],) if told[0] == "taken" else told
    if word[:7] == "rename ":
        told = decided_rename(program, change) if is_rename(program, change) else UNFIT
        return told + ([("names", (), change)],) if told[0] == "taken" else told
    if word == "turn shape":
        return told_shape(program, change)
    if is_change_by_form(change):
        return told_case(program, change)
    if word in FUNCTION_WORDS:
        told = decided_function(program, change) if is_function_change(program, change) else UNFIT
        return told + (function_paper(program, change),) if told[0] == "taken" else told
    told = decided_straight(program, change) if is_part_change(program, change) else UNFIT
    if told[0] == "refused":
        return told
    return told + (part_paper(program, change, found_at(told[1], change[1])),)


def function_paper(program, change):
    """The list of the steps of a change of functions that is taken."""
    if change[0] == "unfold":
        return unfold_paper(program, change[1])
    return fold_paper(program, change[1], change[2]) if change[0] == "fold" else flip_paper(program, change)


def is_taken(program, change):
    """Whether a change is taken."""
    return decided(program, change)[0] == "taken"


def taken(program, change):
    """The program to which a change comes, None if it is refused."""
    told = decided(program, change)
    return told[1] if told[0] == "taken" else None
