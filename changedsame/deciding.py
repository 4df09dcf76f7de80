"""All changes, decided: what is taken comes with a paper, what is refused with a reason."""

from changedsame.caserules import is_change_by_form
from changedsame.cases import told_case
from changedsame.changeforms import is_change_form
from changedsame.checker import MOST_STEPS, led_by
from changedsame.errors import InvalidChange, InvalidConstructor, InvalidPath, InvalidPlace, InvalidProgram, InvalidRule
from changedsame.errors import NotAccepted, TooMany
from changedsame.functions import decided_function
from changedsame.infer import is_accepted
from changedsame.moves import decided_move
from changedsame.renames import decided_rename
from changedsame.replaces import decided_straight
from changedsame.shapes import told_shape
from changedsame.spots import found_at
from changedsame.trails import flip_paper, fold_paper, part_paper, unfold_paper
from changedsame.trees import is_program

UNFIT = ("refused", ("place",))

FUNCTION_WORDS = ("unfold", "fold", "flip")


def is_change(value):
    """Whether any value is a change, by its form."""
    return is_change_form(value)


def decided(program, change):
    """("taken", the program to which the change comes, a paper), or ("refused", the reason)."""
    if not is_program(program):
        raise InvalidProgram(program)
    if not is_change_form(change):
        raise InvalidChange(change)
    if not is_accepted(program):
        raise NotAccepted()
    return outcome(program, change)


def outcome(program, change):
    """The same of an accepted program and a change."""
    try:
        told = told_of(program, change)
    except (TooMany, InvalidChange, InvalidPlace, InvalidRule, InvalidPath, InvalidConstructor):
        return UNFIT
    if told[0] == "taken" and not is_within_limits(program, told):
        return UNFIT
    return told


def is_within_limits(program, told):
    """Whether the paper of what is taken leads there, without a step that needs more than a limit lets."""
    _, result, paper = told
    if paper[0][0] in ("names", "moved"):
        return True
    return len(paper) <= MOST_STEPS and led_by(program, paper) == (result, None)


def end_of(program, change):
    """The program to which a change of an accepted program comes, None if it is refused."""
    told = outcome(program, change)
    return told[1] if told[0] == "taken" else None


def told_of(program, change):
    """The same, the paper being what it may be; raises what doesn't fit the program."""
    word = change[0]
    if word == "turn shape":
        return told_shape(program, change)
    if is_change_by_form(change):
        return told_case(program, change)
    if word == "move":
        told = decided_move(program, change)
    elif word[:7] == "rename ":
        told = decided_rename(program, change)
    elif word in FUNCTION_WORDS:
        told = decided_function(program, change)
    else:
        told = decided_straight(program, change)
    return told + (paper_of(program, change, told[1]),) if told[0] == "taken" else told


def paper_of(program, change, result):
    """The list of the steps of a change of stages 6 and 7 that is taken."""
    word = change[0]
    if word == "move":
        return [("moved", (), change)]
    if word[:7] == "rename ":
        return [("names", (), change)]
    if word == "unfold":
        return unfold_paper(program, change[1])
    if word == "fold":
        return fold_paper(program, change[1], change[2])
    return flip_paper(program, change) if word == "flip" else part_paper(program, change, found_at(result, change[1]))


def is_taken(program, change):
    """Whether a change is taken."""
    return decided(program, change)[0] == "taken"


def taken(program, change):
    """The program to which a change comes, None if it is refused."""
    told = decided(program, change)
    return told[1] if told[0] == "taken" else None
