"""Bodies of rules that are written with the names of other rules, and compared as straight parts."""

from changedsame.alikes import are_alike_parts
from changedsame.binding import changed, free_in
from changedsame.choosing import bound_places
from changedsame.errors import TooMany
from changedsame.opensorts import are_straight_with, joined_sorts, open_names
from changedsame.surroundings import parting


def can_write(rule, other):
    """Whether the body of a rule can be written with the names of another one: no name is missing, none is hidden."""
    bound, others = bound_places(rule[0]), bound_places(other[0])
    spots = list(others.values())
    for name in free_in(rule[1]):
        if name in bound and bound[name] not in spots:
            return False
        if name not in bound and name in others:
            return False
    return True


def new_names(rule, other):
    """A dict from the names that a rule binds to those that another one binds at the same places."""
    bound, others = bound_places(rule[0]), bound_places(other[0])
    names = {others[name]: name for name in others}
    return {name: names[bound[name]] for name in bound if bound[name] in names}


def written_with(rule, other):
    """The body of a rule with the names of another one, by which it can be written."""
    body = rule[1]
    table = new_names(rule, other)
    going = [name for name in table if table[name] != name and name in free_in(body)]
    # By way of names that are nowhere in it, since two names may be exchanged.
    stops = names_nowhere(body, table, len(going))
    for name, stop in zip(going, stops):
        body = changed(body, name, stop)
    for name, stop in zip(going, stops):
        body = changed(body, stop, table[name])
    return body


def names_nowhere(body, table, many):
    """The list of so many names that stand nowhere in an expression, and in no dict of names."""
    text = repr((body, table))
    found = []
    k = 0
    while len(found) < many:
        if f"z{k}z" not in text:
            found.append(f"z{k}z")
        k += 1
    return found


class Pair:
    """Two rules at their places in two programs; the body of the other one with the names of the first, if it can."""

    def __init__(self, program, place, rule, result, other_place, other):
        self.part = rule[1]
        self.other = None
        self.sorts = None
        if can_write(rule, other) and can_write(other, rule):
            table = new_names(other, rule)
            self.other = written_with(other, rule)
            names = [(table.get(name, name), sort) for name, sort in open_names(result, other_place)]
            self.sorts = joined_sorts([open_names(program, place), names])

    def is_straight(self):
        """Whether both bodies are straight, and can be written with the names of both rules."""
        return self.other is not None and are_straight_with(self.part, self.other, self.sorts)

    def are_alike(self):
        """Whether both straight bodies are alike in all surroundings, None if that would be too many cases."""
        try:
            return are_alike_parts(self.part, self.other, self.sorts)
        except TooMany:
            return None

    def surroundings(self):
        """Those that part both bodies."""
        return parting(self.part, self.other, self.sorts)
