"""Changes of the rules of a match or a try: told, and taken or refused."""

from changedsame.binding import free_in
from changedsame.caserules import changed_program, check_fits, is_change_by_form
from changedsame.casework import Case, whole_patterns
from changedsame.choosing import are_like_ways, bound_places, first_ways, ways_through
from changedsame.covers import board_of
from changedsame.errors import InvalidChange, InvalidPatterns, InvalidProgram, NotAccepted
from changedsame.infer import is_accepted
from changedsame.matches import are_patterns
from changedsame.newparts import UNIT, alone_at
from changedsame.places import check_place, check_size
from changedsame.spots import found_at
from changedsame.trees import is_expr, is_program
from changedsame.verdicts import fault_of
from changedsame.wholes import whole_of


def is_case_change(value):
    """Whether any value is a change of rules, by its form."""
    return is_change_by_form(value)


def check_change(program, change):
    """Raises what is wrong with a program, or with a change of rules."""
    if not is_program(program):
        raise InvalidProgram(program)
    if not is_change_by_form(change):
        raise InvalidChange(change)
    if not is_accepted(program):
        raise NotAccepted()
    check_fits(program, change)


def case_result(program, change):
    """The plain result of a change of rules."""
    check_change(program, change)
    result = changed_program(program, change)
    check_size(result)
    return result


def told_case(program, change):
    """("taken", the plain result, the list of the steps), or ("refused", the reason)."""
    result = case_result(program, change)
    if not is_accepted(result) or loses_names(program, change, result):
        return ("refused", ("clash", change[1]))
    case = Case(program, change, result)
    reason = case.first_reason()
    if reason is not None:
        return ("refused", reason)
    steps = case.paper()
    return ("taken", result, steps) if steps is not None else ("refused", case.beyond(case.unlike[0]))


def loses_names(program, change, result):
    """Whether a name of a body of the accepted plain result has another binder than it had."""
    if change[0] != "merge rules":
        return False
    old, new = found_at(program, change[1])[2][change[2]], found_at(result, change[1])[2][change[2]]
    bound = bound_places(new[0])
    return bool([name for name in bound_places(old[0]) if name in free_in(old[1]) and name not in bound])


def went(whole, patterns, others):
    """The sorted list of the tuples of positions to which some value goes by the patterns and by the others."""
    board_of(whole, patterns)
    if not are_patterns(others):
        raise InvalidPatterns(others)
    told = ways_through(whole.cons(), patterns, others)
    if told is None:
        raise InvalidPatterns(others)
    pairs = [way[1:] for way in first_ways(told[1])]
    rows = sorted([(k is None, k or 0, other is None, other or 0) for k, other in pairs])
    return [(None if row[0] else row[1], None if row[2] else row[3]) for row in rows]


def like_choices(program, place, match, other):
    """Whether any two values are matches, or tries, of one expression, that have like choices at a place."""
    check_place(program, place)
    if not is_expr(match) or not is_expr(other) or match[0] not in ("match", "try") or other[:2] != match[:2]:
        return False
    near, far = patterns_there(program, place, match[2]), patterns_there(program, place, other[2])
    if near is None or far is None:
        return False
    makers, patterns = near
    told = ways_through(makers, patterns, far[1])
    return told is not None and all([are_like_ways(way, match[2], other[2]) for way in first_ways(told[1])])


def patterns_there(program, place, rules):
    """The tuple (constructors, patterns with whole names) of rules at a place; None if a name is not seen there."""
    bare = ("match", UNIT, tuple([(pattern, UNIT) for pattern, _ in rules]))
    alone = alone_at(program, place, bare)
    return None if fault_of(alone) is not None else (whole_of(alone).cons(), whole_patterns(alone, place))
