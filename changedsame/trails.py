"""Papers of changes of parts, of functions, and of two parameters that are exchanged: step by step."""

from changedsame.binding import changed, free_in
from changedsame.errors import TooMany
from changedsame.finding import is_value
from changedsame.flips import both_work, call_of_two, uses_of
from changedsame.folds import first_uses, folded, free_of, unfolded_function
from changedsame.givens import as_seen
from changedsame.names import are_like
from changedsame.places import check_size
from changedsame.putting import put
from changedsame.replaces import is_early_change, is_still_change
from changedsame.spots import found_at, with_expr_at


class Trail:
    """A program on its way, and the steps that led there."""

    def __init__(self, program):
        self.base = program
        self.steps = []

    def stands(self, place):
        """The expression at a place of the program that there is now."""
        return found_at(self.base, place)

    def put(self, rule, place, more):
        """Changes the trail by a step; raises what makes the program too large."""
        told = with_expr_at(self.base, place, more)
        check_size(told)
        self.base = told
        self.steps.append((rule, place, more))


def part_paper(program, change, new):
    """The list of the steps of a change of a part that is taken, by its new part."""
    word, place = change[:2]
    part = found_at(program, place)
    if are_like(part, new, (), ()):
        return [("alpha", place, new)]
    if not is_still_change(change, part):
        if not is_early_change(program, change, part):
            return [("rows", place, new)]
        return inlined_early(program, place, new) if word == "inline" else [("named", place, new)]
    if word == "swap":
        action = SWAPS[part[0]]
        return action(program, place)
    if part[0] == "seq" and word == "drop":
        return [("unused", place, ("let", free_of("z", new), part[1], new)), ("value", place, new)]
    return [("value", place, new)]


def inlined_early(program, place, new):
    """Steps that put what a let names in the place of the one use of this name."""
    _, name, first, rest = found_at(program, place)
    trail = Trail(program)
    if name in free_in(new):
        fresh = free_of("z", ("tuple", (new, rest)))
        trail.put("alpha", place, ("let", fresh, first, changed(rest, name, fresh)))
    trail.put("named", place, new)
    return trail.steps


def swapped_seqs(program, place):
    _, first, (_, second, rest) = found_at(program, place)
    fresh = free_of("z", ("tuple", (second, rest)))
    trail = Trail(program)
    if is_value(first):
        leave_out(trail, place, fresh)
        put_ahead(trail, place + (1,), fresh, first)
    else:
        leave_out(trail, place + (1,), fresh)
        put_ahead(trail, place, free_of("z", ("tuple", (first, rest))), second)
    return trail.steps


def leave_out(trail, place, fresh):
    """Changes the trail: the still first one of both at a place is left out."""
    _, first, rest = trail.stands(place)
    trail.put("unused", place, ("let", fresh, first, rest))
    trail.put("value", place, rest)


def put_ahead(trail, place, fresh, first):
    """Changes the trail: a still expression is put ahead of what stands at a place."""
    rest = trail.stands(place)
    trail.put("value", place, ("let", fresh, first, rest))
    trail.put("unused", place, ("seq", first, rest))


def swapped_lets(program, place):
    """The shorter way, or the one with fewer copies where the first leads to what is too large."""
    part = found_at(program, place)
    first, second = (swapped_first, first_moved) if is_value(part[2]) else (swapped_second, second_moved)
    trail = Trail(program)
    try:
        first(trail, place)
    except TooMany:
        trail = Trail(program)
        second(trail, place)
    return trail.steps


def swapped_first(trail, place):
    """Changes the trail: the first let, of a still one, is put for its name, and stands behind the second one then."""
    _, name, value, inner = trail.stands(place)
    trail.put("value", place, put(inner, name, value))
    trail.put("value", place + (1,), ("let", name, value, inner[3]))


def swapped_second(trail, place):
    """The same of a second let of a still one."""
    _, name, value, (_, other, still, rest) = trail.stands(place)
    trail.put("value", place + (1,), put(rest, other, still))
    trail.put("value", place, ("let", other, still, ("let", name, value, rest)))


def first_moved(trail, place):
    """Changes the trail: the first let, of a still one, is given once more behind the second one, then left out."""
    _, name, value, (_, other, second, rest) = trail.stands(place)
    fresh = free_of("z", ("tuple", (("fn", name, rest), value, second, ("var", other))))
    trail.put("alpha", place, ("let", fresh, value, ("let", other, second, changed(rest, name, fresh))))
    trail.put("value", place + (1, 1), ("let", name, ("var", fresh), rest))
    trail.put("given", place + (1, 1, 0), value)
    trail.put("value", place, trail.stands(place + (1,)))


def second_moved(trail, place):
    """Changes the trail: the second let, of a still one, is given by a let ahead of both, then left out."""
    _, name, value, (_, other, still, rest) = trail.stands(place)
    fresh = free_of("z", ("tuple", (value, still, ("fn", other, rest), ("var", name))))
    trail.put("value", place, ("let", fresh, still, trail.stands(place)))
    trail.put("given", place + (1, 1, 0), ("var", fresh))
    trail.put("value", place + (1, 1), changed(rest, other, fresh))
    trail.put("alpha", place, ("let", other, still, ("let", name, value, rest)))


SWAPS = {"let": swapped_lets, "seq": swapped_seqs}


def unfold_paper(program, place):
    """The list of the steps of an unfold that is taken."""
    _, head, argument = found_at(program, place)
    trail = Trail(program)
    if head[0] == "var":
        function = unfolded_function(program, place)
        body = as_seen(program, function.body, function.place, place)
        trail.put("given", place + (0,), ("fn", function.parameter, body))
    _, parameter, body = trail.stands(place + (0,))
    trail.put("call", place, ("let", parameter, argument, body))
    return trail.steps


def fold_paper(program, place, name):
    """The list of the steps of a fold that is taken."""
    told = [(parameter, ("var", parameter)) for parameter, _ in first_uses(program, place)]
    if not told:
        told = [(free_of("x", found_at(program, place)), ("unit",))]
    trail = Trail(program)
    at = place
    for parameter, argument in told[::-1]:
        part = trail.stands(at)
        trail.put("value", at, ("let", parameter, argument, part))
        trail.put("call", at, ("call", ("fn", parameter, part), argument))
        at = at + (0,)
    trail.put("value", place, folded(program, place, name)[0])
    return trail.steps


def flip_paper(program, change):
    """The list of the steps of a flip that is taken."""
    trail = Trail(program)
    while True:
        calls = [call_of_two(trail.base, place) for place in uses_of(trail.base, change[1])]
        both = [place for place in calls if both_work(trail.stands(place))]
        if not both:
            break
        name_first(trail, both[0])
    return trail.steps + [("flipped", (), change)]


def name_first(trail, place):
    """Changes the trail: of a call of two the first argument is named ahead of all."""
    whole = trail.stands(place)
    _, (_, head, first), last = whole
    name = free_of("v", whole)
    held = free_of("w", ("tuple", (whole, ("var", name))))
    inner = ("call", head, ("var", name))
    trail.put("named", place + (0,), ("let", name, first, inner))
    trail.put("named", place, ("let", held, trail.stands(place + (0,)), ("call", ("var", held), last)))
    trail.put("nested", place, ("let", name, first, ("let", held, inner, ("call", ("var", held), last))))
    trail.put("named", place + (1,), ("call", inner, last))
