"""Straight parts that are alike in all surroundings, and the first difference of others."""

from changedsame.errors import InvalidStraight, TooMany
from changedsame.partitions import all_bits, all_partitions
from changedsame.rows import row_of
from changedsame.spots import below
from changedsame.straights import is_straight, names_of, own_sort

MOST_CASES = 1000


def are_alike_parts(one, other, sorts):
    """Whether two straight parts are alike in all surroundings."""
    check_pair(one, other, sorts)
    check_cases(one, other, sorts)
    return difference(one, other, sorts) is None


def first_difference(one, other, sorts):
    """The first difference (partition, bits, answers, position) of two straight parts, None if there is none."""
    check_pair(one, other, sorts)
    check_cases(one, other, sorts)
    return difference(one, other, sorts)


def check_pair(one, other, sorts):
    """Raises the error of what are no sorts, or no two straight parts of one own sort."""
    if not is_straight(one, sorts):
        raise InvalidStraight(one)
    if not is_straight(other, sorts) or own_sort(other, sorts) != own_sort(one, sorts):
        raise InvalidStraight(other)


def check_cases(one, other, sorts):
    """Raises the error of two parts that have too many cases."""
    many = len(all_partitions(len(names_of(sorts, "ref"))))
    for _ in range(len(names_of(sorts, "bool")) + most_tests(one, other)):
        many = many * 2
    if many > MOST_CASES:
        raise TooMany("cases", MOST_CASES)


def most_tests(one, other):
    """How many calls of open tests stand in the one of two straight parts that has more of these."""
    return max(tests_in(one), tests_in(other))


def tests_in(part):
    """How many calls of open tests stand in a straight part."""
    return len([expr for _, expr in below((), part) if expr[0] == "if" and expr[1][0] == "call"])


def difference(one, other, sorts):
    """The same as first_difference, of what is known to be right."""
    many = most_tests(one, other)
    for partition in all_partitions(len(names_of(sorts, "ref"))):
        for bits in all_bits(len(names_of(sorts, "bool"))):
            for answers in all_bits(many):
                near = row_of(one, sorts, partition, bits, answers)
                far = row_of(other, sorts, partition, bits, answers)
                if near != far:
                    return (partition, bits, answers, first_unlike(near, far))
    return None


def first_unlike(near, far):
    """The position of the first points that are unlike; each row has an end, so that there is one."""
    return [k for k in range(min(len(near), len(far))) if near[k] != far[k]][0]
