"""Changes of the rules of a match or a try: told, and taken or refused."""

from changedsame.binding import free_in
from changedsame.bodies import Pair, can_write, written_with
from changedsame.caserules import changed_program, check_fits, is_change_by_form, origin_of
from changedsame.choosing import are_like_ways, bound_places, first_ways, ways_through
from changedsame.covers import board_of
from changedsame.errors import InvalidChange, InvalidPatterns, InvalidProgram, NotAccepted
from changedsame.infer import is_accepted
from changedsame.matches import are_patterns
from changedsame.newparts import UNIT, alone_at
from changedsame.places import check_place, check_size
from changedsame.plaintrees import shape_of
from changedsame.sights import sights
from changedsame.spots import found_at, with_expr_at
from changedsame.trees import is_expr, is_program
from changedsame.verdicts import fault_of
from changedsame.wholes import whole_of


def is_case_change(value):
    """Whether any value is a change of rules, by its form."""
    return is_change_by_form(value)


def check_change(program, change):
    """Raises what is wrong with a program, or with a change of rules."""
    if not is_program(program):
        raise InvalidProgram(program)
    if not is_change_by_form(change):
        raise InvalidChange(change)
    if not is_accepted(program):
        raise NotAccepted()
    check_fits(program, change)


def case_result(program, change):
    """The plain result of a change of rules."""
    check_change(program, change)
    result = changed_program(program, change)
    check_size(result)
    return result


def told_case(program, change):
    """("taken", the plain result, the list of the steps), or ("refused", the reason)."""
    result = case_result(program, change)
    if not is_accepted(result) or loses_names(program, change, result):
        return ("refused", ("clash", change[1]))
    case = Case(program, change, result)
    reason = case.first_reason()
    return ("refused", reason) if reason is not None else ("taken", result, case.paper())


def loses_names(program, change, result):
    """Whether a name of a body of the accepted plain result has another binder than it had."""
    if change[0] != "merge rules":
        return False
    old, new = found_at(program, change[1])[2][change[2]], found_at(result, change[1])[2][change[2]]
    bound = bound_places(new[0])
    return bool([name for name in bound_places(old[0]) if name in free_in(old[1]) and name not in bound])


def whole_patterns(program, place):
    """The list of the patterns with whole names of the match or try at a place of a resolved program."""
    told = [expr for at, expr, _ in sights(program) if at == place][0]
    return [rule[0] for rule in told[2]]


class Case:
    """A change of rules with an accepted plain result, and the ways that values go ahead of it and behind it."""

    def __init__(self, program, change, result):
        place = change[1]
        self.base = program
        self.change = change
        self.result = result
        self.rules, self.others = found_at(program, place)[2], found_at(result, place)[2]
        makers = whole_of(program).cons()
        self.board, ways = ways_through(makers, whole_patterns(program, place), whole_patterns(result, place))
        self.unlike = [way for way in first_ways(ways) if not are_like_ways(way, self.rules, self.others)]
        self.pairs = [self.pair_of(way) for way in self.unlike]

    def pair_of(self, way):
        """The Pair of the rules to which a way leads, None if one of both is none."""
        _, k, other = way
        if k is None or other is None:
            return None
        place = self.change[1]
        near, far = self.rules[k], self.others[other]
        return Pair(self.base, place + (k + 1,), near, self.result, place + (other + 1,), far)

    def first_reason(self):
        """The reason of the first way that leads to rules that are not told to be alike; None without one."""
        told = [None if pair is None or not pair.is_straight() else pair.are_alike() for pair in self.pairs]
        together = [way for way, is_alike in zip(self.unlike, told) if is_alike]
        for at, way in enumerate(self.unlike):
            known, k, other = way
            if told[at] is False:
                surroundings = self.pairs[at].surroundings()
                return ("value", shape_of(self.board, known), k, other, surroundings)
            if told[at] is None or not self.can_all_be_written(group_of(way, together)):
                return ("beyond", self.change[1], k, other)
        return None

    def can_all_be_written(self, group):
        """Whether each body of some ways can be written with the names of each of their rules."""
        rules = [self.rules[way[1]] for way in group] + [self.others[way[2]] for way in group]
        return all([can_write(rule, other) for rule in rules for other in rules])

    def paper(self):
        """The list of the steps of a change that is taken; raises what makes a program on the way too large."""
        _, place, k = self.change[:3]
        origins = [origin_of(self.change, other) for other in range(len(self.others))]
        anew = {}
        for _, near, far in self.unlike:
            anew[origins[far] if near == k else near] = True
        steps = []
        program = self.base
        for at in sorted(anew):
            body = written_with(self.rules[k], self.rules[at])
            program = stepped(program, steps, ("rows", place + (at + 1,), body))
        program = stepped(program, steps, ("choices", place, found_at(changed_program(program, self.change), place)))
        for at, origin in enumerate(origins):
            if origin in anew:
                program = stepped(program, steps, ("rows", place + (at + 1,), self.others[at][1]))
        return steps


def stepped(program, steps, step):
    """The program behind a step that puts an expression at a place; the step is added to those told."""
    result = with_expr_at(program, step[1], step[2])
    check_size(result)
    steps.append(step)
    return result


def group_of(way, ways):
    """The list of the ways that are led to one another with one of them."""
    group = [way]
    at = 0
    while at < len(group):
        _, k, other = group[at]
        group.extend([told for told in ways if (told[1] == k or told[2] == other) and told not in group])
        at += 1
    return group


def went(whole, patterns, others):
    """The sorted list of the tuples of positions to which some value goes by the patterns and by the others."""
    board_of(whole, patterns)
    if not are_patterns(others):
        raise InvalidPatterns(others)
    told = ways_through(whole.cons(), patterns, others)
    if told is None:
        raise InvalidPatterns(others)
    pairs = [way[1:] for way in first_ways(told[1])]
    rows = sorted([(k is None, k or 0, other is None, other or 0) for k, other in pairs])
    return [(None if row[0] else row[1], None if row[2] else row[3]) for row in rows]


def like_choices(program, place, match, other):
    """Whether any two values are matches, or tries, of one expression, that have like choices at a place."""
    check_place(program, place)
    if not is_expr(match) or not is_expr(other) or match[0] not in ("match", "try") or other[:2] != match[:2]:
        return False
    near, far = patterns_there(program, place, match[2]), patterns_there(program, place, other[2])
    if near is None or far is None:
        return False
    makers, patterns = near
    told = ways_through(makers, patterns, far[1])
    return told is not None and all([are_like_ways(way, match[2], other[2]) for way in first_ways(told[1])])


def patterns_there(program, place, rules):
    """The tuple (constructors, patterns with whole names) of rules at a place; None if a name is not seen there."""
    bare = ("match", UNIT, tuple([(pattern, UNIT) for pattern, _ in rules]))
    alone = alone_at(program, place, bare)
    return None if fault_of(alone) is not None else (whole_of(alone).cons(), whole_patterns(alone, place))
