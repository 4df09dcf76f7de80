"""The ways that values go ahead of a change of rules and behind it, and the steps of such a change."""

from changedsame.bodies import Pair, can_write, written_with
from changedsame.caserules import changed_program, origin_of
from changedsame.choosing import are_like_ways, first_ways, ways_through
from changedsame.errors import TooMany
from changedsame.infer import is_accepted
from changedsame.opensorts import are_rows_alike
from changedsame.places import check_size
from changedsame.plaintrees import full_shape
from changedsame.sights import sights
from changedsame.spots import found_at, with_expr_at
from changedsame.wholes import whole_of


def whole_patterns(program, place):
    """The list of the patterns with whole names of the match or try at a place of a resolved program."""
    told = [expr for at, expr, _ in sights(program) if at == place][0]
    return [rule[0] for rule in told[2]]


class Case:
    """A change of rules with an accepted plain result, and the ways that values go ahead of it and behind it."""

    def __init__(self, program, change, result):
        self.base = program
        self.change = change
        self.result = result
        self.spot = change[1]
        self.rules, self.others = found_at(program, self.spot)[2], found_at(result, self.spot)[2]
        self.origins = [origin_of(change, at) for at in range(len(self.others))]
        makers = whole_of(program).cons()
        self.board, ways = ways_through(makers, whole_patterns(program, self.spot), whole_patterns(result, self.spot))
        self.ways = first_ways(ways)
        self.unlike = [way for way in self.ways if not are_like_ways(way, self.rules, self.others)]
        self.pairs = [self.pair_of(way) for way in self.unlike]

    def pair_of(self, way):
        """The Pair of the rules to which a way leads, None if one of both is none."""
        _, k, other = way
        if k is None or other is None:
            return None
        near, far = self.rules[k], self.others[other]
        return Pair(self.base, self.spot + (k + 1,), near, self.result, self.spot + (other + 1,), far)

    def first_reason(self):
        """The reason of the first way that leads to rules that are not told to be alike; None without one."""
        told = [None if pair is None or not pair.is_straight() else pair.are_alike() for pair in self.pairs]
        together = [way for way, is_alike in zip(self.unlike, told) if is_alike]
        for at, way in enumerate(self.unlike):
            if told[at] is False:
                return ("value", full_shape(self.board, way[0]), way[1], way[2], self.pairs[at].surroundings())
            if told[at] is None or not self.can_all_be_written(group_of(way, together)):
                return self.beyond(way)
        return None

    def beyond(self, way):
        """The reason of a way of which nothing is claimed."""
        return ("beyond", self.spot, way[1], way[2])

    def can_all_be_written(self, group):
        """Whether each body of some ways can be written with the names of each of their rules."""
        rules = [self.rules[way[1]] for way in group] + [self.others[way[2]] for way in group]
        return all([can_write(rule, other) for rule in rules for other in rules])

    def paper(self):
        """The list of the steps of a change without a reason, None if types bar all; raises what is too large."""
        large = []
        for chosen in self.chosen():
            try:
                steps = self.paper_by(chosen)
            except TooMany:
                large.append(chosen)
                steps = None
            if steps is not None:
                return steps
        return self.paper_by(large[0]) if large else None

    def chosen(self):
        """The list of the rules ahead whose body all that are led to one another may get, that of the change first."""
        found = {self.change[2]: True}
        for _, near, far in self.unlike:
            found[near] = True
            found[self.origins[far]] = True
        return list(found)

    def anew(self, chosen):
        """The sorted list of the rules ahead that get the body of a chosen one, so that all ways are like ones."""
        found = {}
        for _, near, far in self.unlike:
            found[near] = True
            found[self.origins[far]] = True
        found.pop(chosen, None)
        pairs = [(near, self.origins[far]) for _, near, far in self.ways if near is not None and far is not None]
        many = -1
        while many < len(found):
            many = len(found)
            for near, far in pairs:
                if (near in found or far in found) and chosen not in (near, far):
                    found[near] = True
                    found[far] = True
        return sorted(found)

    def paper_by(self, chosen):
        """The list of the steps by way of one rule's body, None if one is not right; raises what makes it too large."""
        anew = self.anew(chosen)
        if [at for at in anew if not can_write(self.rules[chosen], self.rules[at])]:
            return None
        rows = [(at, written_with(self.rules[chosen], self.rules[at])) for at in anew]
        steps = []
        program = rewritten(self.base, self.spot, rows, steps)
        if program is None:
            return None
        steps.append(("choices", self.spot, found_at(changed_program(program, self.change), self.spot)))
        program = with_expr_at(program, self.spot, steps[-1][2])
        check_size(program)
        back = [(at, self.others[at][1]) for at, origin in enumerate(self.origins) if origin in anew]
        return None if rewritten(program, self.spot, back, steps) is None else steps


def rewritten(program, place, rows, steps):
    """The program with other bodies of rules, to which steps are added, None if one is not right."""
    for at, body in rows:
        spot = place + (at + 1,)
        if body != found_at(program, spot):
            told = with_expr_at(program, spot, body)
            check_size(told)
            if not is_accepted(told) or not is_right_row(program, spot, body):
                return None
            program = told
            steps.append(("rows", spot, body))
    return program


def is_right_row(program, place, body):
    """Whether a part is straight and alike to a body that can stand there, by no more cases than may be."""
    try:
        return are_rows_alike(program, place, body)
    except TooMany:
        return False


def group_of(way, ways):
    """The list of the ways that are led to one another with one of them."""
    group = [way]
    at = 0
    while at < len(group):
        _, k, other = group[at]
        group.extend([told for told in ways if (told[1] == k or told[2] == other) and told not in group])
        at += 1
    return group
