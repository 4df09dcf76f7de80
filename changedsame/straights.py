"""Sorts of open names, and straight parts."""

from changedsame.basics import all_unlike, is_short_name
from changedsame.errors import InvalidExpr, InvalidSorts
from changedsame.sizes import size_of
from changedsame.spots import below
from changedsame.trees import is_expr

SORTS = ("int", "bool", "ref", "fun", "test")
MOST_SORTS = 8
MOST_REFS = 4
MOST_BOOLS = 3
MOST_STRAIGHT = 60
DEEPEST_STRAIGHT = 24
MOST_IFS = 6

# What each prim of a straight part takes, and behind it its own sort; of mul one part is a number as well.
PRIM_SORTS = {
    "add": ("int", "int", "int"), "sub": ("int", "int", "int"), "mul": ("int", "int", "int"),
    "get": ("ref", "int"), "put": ("ref", "int", "unit"), "tell": ("int", "unit"), "ask": ("int",),
    "ref": ("int", "ref"),
}


def is_sorts(value):
    """Whether any value is sorts of open names."""
    if not isinstance(value, (list, tuple)) or len(value) > MOST_SORTS:
        return False
    for told in value:
        if not isinstance(told, tuple) or len(told) != 2 or not is_short_name(told[0]):
            return False
        if told[1] not in SORTS:
            return False
    if not all_unlike([name for name, _ in value]):
        return False
    return len(names_of(value, "ref")) <= MOST_REFS and len(names_of(value, "bool")) <= MOST_BOOLS


def names_of(sorts, sort):
    """The list of the open names of one sort."""
    return [name for name, told in sorts if told == sort]


def sort_of(expr, sorts):
    """The sort of a straight part, None if the expression is none."""
    if not is_expr(expr):
        raise InvalidExpr(expr)
    if not is_sorts(sorts):
        raise InvalidSorts(sorts)
    return own_sort(expr, sorts)


def is_straight(value, sorts):
    """Whether any value is a straight part with these sorts."""
    if not is_sorts(sorts):
        raise InvalidSorts(sorts)
    return is_expr(value) and own_sort(value, sorts) is not None


def own_sort(expr, sorts):
    """The same as sort_of, of what is known to be right."""
    parts, depth = size_of("expr", expr)
    if parts > MOST_STRAIGHT or depth > DEEPEST_STRAIGHT:
        return None
    if len([inner for _, inner in below((), expr) if inner[0] == "if"]) > MOST_IFS:
        return None
    return sort_within(expr, {name: sort for name, sort in sorts})


def sort_within(expr, env):
    """The sort of an expression, with the sorts of the names around; None if it is made as none is."""
    word = expr[0]
    if word in ("int", "unit"):
        return word
    if word == "var":
        sort = env.get(expr[1], None)
        return sort if sort in ("int", "ref") else None
    if word not in STRAIGHTS:
        return None
    action = STRAIGHTS[word]
    return action(expr, env)


def prim_sort(expr, env):
    if expr[1] not in PRIM_SORTS:
        return None
    told = PRIM_SORTS[expr[1]]
    if tuple([sort_within(part, env) for part in expr[2]]) != told[:-1]:
        return None
    if expr[1] == "mul" and expr[2][0][0] != "int" and expr[2][1][0] != "int":
        return None
    return told[-1]


def call_sort(expr, env):
    return "int" if is_call_of("fun", expr, env) else None


def is_call_of(sort, expr, env):
    """Whether an expression calls an open name of this sort with a number."""
    if expr[0] != "call" or expr[1][0] != "var" or env.get(expr[1][1], None) != sort:
        return False
    return sort_within(expr[2], env) == "int"


def let_sort(expr, env):
    _, name, first, rest = expr
    sort = sort_within(first, env)
    if sort not in ("int", "ref"):
        return None
    inner = dict(env)
    inner[name] = sort
    return sort_within(rest, inner)


def seq_sort(expr, env):
    return None if sort_within(expr[1], env) is None else sort_within(expr[2], env)


def if_sort(expr, env):
    _, test, first, last = expr
    is_open_bool = test[0] == "var" and env.get(test[1], None) == "bool"
    if not is_open_bool and not is_call_of("test", test, env):
        return None
    sort = sort_within(first, env)
    return sort if sort_within(last, env) == sort else None


STRAIGHTS = {"prim": prim_sort, "call": call_sort, "let": let_sort, "seq": seq_sort, "if": if_sort}
