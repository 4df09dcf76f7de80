"""Partings: two programs around two straight parts, and inputs, by which the outside tells them from one another."""

from changedsame.alikes import check_cases, check_pair, difference
from changedsame.infer import is_accepted
from changedsame.linears import values_apart, worth
from changedsame.plainruns import are_inputs, run_outer
from changedsame.rows import row_of
from changedsame.spots import all_exprs, with_expr_at
from changedsame.straights import own_sort
from changedsame.watchers import MARKERS, Watcher, watched

RUN_TICKS = 2000
ENOUGH_INPUTS = 60


def parting(one, other, sorts):
    """A parting of two straight parts, None if they are alike in all surroundings."""
    check_pair(one, other, sorts)
    check_cases(one, other, sorts)
    case = difference(one, other, sorts)
    if case is None:
        return None
    partition, bits, answers, k = case
    near = row_of(one, sorts, partition, bits, answers)
    far = row_of(other, sorts, partition, bits, answers)
    values = values_between(near[k], far[k])
    told = [worth(point[1], values) for point in (near[k], far[k]) if point[0] == "tell"]
    watcher = Watcher(sorts, partition, bits, answers, values, free_marker(told))
    sort = own_sort(one, sorts)
    inputs = input_numbers(values, many_inputs(near, far, k))
    return (watched(watcher, one, sort), watched(watcher, other, sort), inputs)


def head_and_forms(point):
    """A point without the forms in it, and the list of these."""
    word = point[0]
    if word == "tell":
        return ((word,), [point[1]])
    if word == "ask":
        return ((word,), list(point[1]))
    if word in ("call", "test"):
        return ((word, point[1]), [point[2]] + list(point[3]))
    value = point[1]
    if value is None or value[0] == "open":
        return ((word, value), list(point[2]))
    if value[0] == "new":
        return ((word, "new"), [value[1]] + list(point[2]))
    return ((word, "number"), [value] + list(point[2]))


def values_between(point, twin):
    """What the atoms stand for so that two unlike points are seen to be unlike; [] if all may be 0."""
    head, forms = head_and_forms(point)
    other_head, other_forms = head_and_forms(twin)
    if head != other_head:
        return []
    return [values_apart(form, other) for form, other in zip(forms, other_forms) if form != other][0]


def free_marker(told):
    """The first marker from which on no number is one of those that are told by the parts."""
    return [begin for begin, end in MARKERS if not [number for number in told if begin <= number < end]][0]


def many_inputs(near, far, k):
    """How many inputs there are; where both parts ask, none is left for the unlike points, so that cells are seen."""
    if near[k][0] == "ask" and far[k][0] == "ask":
        return len([point for point in near[:k] if point[0] == "ask"])
    return ENOUGH_INPUTS


def input_numbers(values, many):
    """So many inputs, each being what its atom stands for."""
    table = {atom: number for atom, number in values}
    return [table.get(("input", k), 0) for k in range(many)]


def is_parting(one, other, sorts, value):
    """Whether any value is a parting of two straight parts."""
    check_pair(one, other, sorts)
    if not isinstance(value, tuple) or len(value) != 3:
        return False
    near, far, inputs = value
    if not is_accepted(near) or not is_accepted(far) or not are_inputs(inputs):
        return False
    if not [place for place, expr in all_exprs(near) if expr == one and with_expr_at(near, place, other) == far]:
        return False
    first, last = run_outer(near, inputs, RUN_TICKS), run_outer(far, inputs, RUN_TICKS)
    return first != last and first[1] != ("spent",) and last[1] != ("spent",)
