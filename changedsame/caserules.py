"""Changes of the rules of a match or a try: their forms, and the rules behind them."""

from changedsame.basics import is_count, is_long_big, word_of
from changedsame.decisions import is_path, value_at
from changedsame.errors import InvalidPath, InvalidPlace, InvalidRule, TooMany
from changedsame.nodes import pattern_names
from changedsame.spots import found_at, is_counts, with_expr_at
from changedsame.verdicts import fault_of

MOST_RULES = 8

MANY_PARTS = {"swap rules": 3, "drop rule": 3, "merge rules": 3, "split rule": 5}


def is_change_by_form(value):
    """Whether any value is a change of rules, by its form."""
    word = word_of(value)
    if word not in MANY_PARTS or len(value) != MANY_PARTS[word]:
        return False
    if not is_counts(value[1]) or not is_count(value[2]):
        return False
    return word != "split rule" or (is_path(value[3]) and is_long_big(value[4]))


def check_fits(program, change):
    """Raises what is wrong with a change of rules in an accepted program."""
    word, place, k = change[:3]
    expr = found_at(program, place)
    if expr is None or expr[0] not in ("match", "try"):
        raise InvalidPlace(place)
    many = len(expr[2])
    if k >= many or (word in ("swap rules", "merge rules") and k + 1 == many) or (word == "drop rule" and many == 1):
        raise InvalidRule(k)
    if word == "split rule":
        if value_at(expr[2][k][0], change[3]) != ("any",):
            raise InvalidPath(change[3])
        if many == MOST_RULES:
            raise TooMany("rules", MOST_RULES)


def with_pattern_at(pattern, path, part):
    """The pattern with another one where a path leads."""
    if not path:
        return part
    step = path[0]
    if pattern[0] == "con":
        return ("con", pattern[1], with_pattern_at(pattern[2], path[1:], part))
    parts = list(pattern[1])
    parts[step] = with_pattern_at(parts[step], path[1:], part)
    return ("tuple", tuple(parts))


def in_common(one, other):
    """What two patterns have in common."""
    if one == other and not pattern_names(one):
        return one
    if one[0] == "tuple" and other[0] == "tuple" and len(one[1]) == len(other[1]):
        return ("tuple", tuple([in_common(part, twin) for part, twin in zip(one[1], other[1])]))
    if one[0] == "con" and other[:2] == one[:2] and one[2] is not None and other[2] is not None:
        return ("con", one[1], in_common(one[2], other[2]))
    return one if one[0] == "bind" and other[0] == "bind" else ("any",)


def rules_behind(rules, change, made):
    """The tuple of the rules behind a change; of a split rule the constructor's pattern is told."""
    word, k = change[0], change[2]
    if word == "swap rules":
        return rules[:k] + (rules[k + 1], rules[k]) + rules[k + 2:]
    if word == "drop rule":
        return rules[:k] + rules[k + 1:]
    if word == "merge rules":
        return rules[:k] + ((in_common(rules[k][0], rules[k + 1][0]), rules[k][1]),) + rules[k + 2:]
    return rules[:k] + ((with_pattern_at(rules[k][0], change[3], made), rules[k][1]),) + rules[k:]


def origin_of(change, k):
    """The position ahead of the rule from which a rule behind a change comes."""
    word, at = change[0], change[2]
    if word == "swap rules":
        return {at: at + 1, at + 1: at}.get(k, k)
    if word == "split rule":
        return k if k <= at else k - 1
    is_ahead = k < at or (word == "merge rules" and k == at)
    return k if is_ahead else k + 1


def changed_program(program, change):
    """The program with the rules behind a change that fits."""
    place = change[1]
    expr = found_at(program, place)
    made = ("con", change[4], None) if change[0] == "split rule" else None
    result = with_expr_at(program, place, expr[:2] + (rules_behind(expr[2], change, made),))
    if made is not None and fault_of(result) == ("fault", "wrong argument", change[4]):
        made = ("con", change[4], ("any",))
        result = with_expr_at(program, place, expr[:2] + (rules_behind(expr[2], change, made),))
    return result
