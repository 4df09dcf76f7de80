"""The small checker of papers: one look for each rule."""

from changedsame.basics import word_of
from changedsame.cases import like_choices
from changedsame.errors import BadStep, InvalidConstructor, InvalidPaper, InvalidProgram, NotAccepted
from changedsame.errors import TooMany
from changedsame.flips import both_work, call_of_two, uses_of
from changedsame.functions import decided_function, is_function_change
from changedsame.finding import is_value
from changedsame.givens import as_seen, function_of, meaning_at, still_given
from changedsame.infer import is_accepted
from changedsame.moves import decided_move, is_move
from changedsame.opensorts import are_rows_alike
from changedsame.origins import clash_behind
from changedsame.papers import PROGRAM_RULES, are_related, rules
from changedsame.renames import decided_rename, is_rename
from changedsame.shapes import is_shape_change, turned_done
from changedsame.spots import found_at, is_counts, with_expr_at
from changedsame.trees import is_expr, is_program

MOST_STEPS = 200


def checked(program, paper):
    """The program to which a paper leads."""
    if not is_program(program):
        raise InvalidProgram(program)
    if not is_paper_by_form(paper):
        raise InvalidPaper(paper)
    if not is_accepted(program):
        raise NotAccepted()
    told, position = led_by(program, paper)
    if position is not None:
        raise BadStep(position)
    return told


def is_paper(program, other, value):
    """Whether any value is a paper that leads from a program to another one."""
    if not is_program(program):
        raise InvalidProgram(program)
    if not is_program(other):
        raise InvalidProgram(other)
    if not is_accepted(program):
        raise NotAccepted()
    return is_paper_by_form(value) and led_by(program, value) == (other, None)


def is_paper_by_form(value):
    """Whether any value is a list of at most 200 steps, right or not."""
    if not isinstance(value, (list, tuple)) or len(value) > MOST_STEPS:
        return False
    return all([is_step(step) for step in value])


def is_step(value):
    """Whether any value is a step, right or not."""
    return word_of(value) in rules() and len(value) == 3 and is_counts(value[1]) and isinstance(value[2], tuple)


def led_by(program, paper):
    """The tuple (program, None) to which a paper leads, or (None, the position of the first step that isn't right)."""
    for position, step in enumerate(paper):
        program = behind(program, step)
        if program is None:
            return (None, position)
    return (program, None)


def behind(program, step):
    """The program to which a step leads, None if it isn't right, or comes to no accepted program."""
    rule, place, more = step
    try:
        if rule not in PROGRAM_RULES:
            return put_by(program, rule, place, more)
        action = CHANGES[rule]
        result = action(program, more) if place == () else None
    except TooMany:
        return None
    return result if result is not None and is_accepted(result) else None


def put_by(program, rule, place, more):
    """The program with another expression at a place, None if it is not accepted, or not related to the one there."""
    part = found_at(program, place)
    if part is None or not is_expr(more):
        return None
    result = with_expr_at(program, place, more)
    if not is_accepted(result):
        return None
    if rule not in CHECKS:
        return result if are_related(rule, part, more) else None
    action = CHECKS[rule]
    return result if action(program, place, more) else None


def are_alike_rows(program, place, more):
    return are_rows_alike(program, place, more)


def are_choices_alike(program, place, more):
    return like_choices(program, place, found_at(program, place), more)


def is_given(program, place, more):
    """Whether one of both is a name, and the other one the still expression or the function that gives it."""
    part = found_at(program, place)
    result = with_expr_at(program, place, more)
    return gives(program, place, part, more, result) or gives(result, place, more, part, program)


def gives(program, place, use, expr, result):
    """Whether an expression is what gives the use that stands at a place, each name in it meaning the same there."""
    if use[0] != "var":
        return False
    binder = meaning_at(program, place)
    given = still_given(program, binder)
    if given is None:
        return gives_function(program, place, binder, expr, result)
    at, told = given
    if not is_value(told) or as_seen(program, told, at, place) != expr:
        return False
    return clash_behind(program, [(at, place, [])], result) is None


def gives_function(program, place, binder, expr, result):
    """The same of a name that a function gives."""
    function = function_of(program, binder)
    if function is None or expr != ("fn", function.parameter, as_seen(program, function.body, function.place, place)):
        return False
    pairs = [(function.binder, ("local", place, 0))]
    return clash_behind(program, [(function.place, place + (0,), pairs)], result) is None


def named(program, change):
    """The plain result of a change of names that is taken, else None."""
    if not is_rename(program, change):
        return None
    told = decided_rename(program, change)
    return told[1] if told[0] == "taken" else None


def moved(program, change):
    if not is_move(program, change):
        return None
    told = decided_move(program, change)
    return told[1] if told[0] == "taken" else None


def flipped(program, change):
    if word_of(change) != "flip" or not is_function_change(program, change):
        return None
    told = decided_function(program, change)
    if told[0] == "refused":
        return None
    calls = [found_at(program, call_of_two(program, place)) for place in uses_of(program, change[1])]
    return None if [call for call in calls if both_work(call)] else told[1]


def turned(program, change):
    if not is_shape_change(change):
        return None
    try:
        return turned_done(program, change)
    except InvalidConstructor:
        return None


CHECKS = {"rows": are_alike_rows, "choices": are_choices_alike, "given": is_given}

CHANGES = {"names": named, "moved": moved, "flipped": flipped, "turned": turned}
