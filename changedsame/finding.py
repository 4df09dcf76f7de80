"""Types that are found by themselves: each expression gets a loose type, unknowns are told step by step."""

from changedsame.looses import leaves_of, put_for_leaves
from changedsame.solving import Solver

INT = ("int",)
BOOL = ("bool",)
UNIT = ("unit",)
EXN = ("exn",)

# What each prim takes, and behind it what it gives; ("param", 0) is the same type at all places of one prim.
PRIM_KINDS = {
    "add": (("int",), ("int",), ("int",)),
    "sub": (("int",), ("int",), ("int",)),
    "mul": (("int",), ("int",), ("int",)),
    "div": (("int",), ("int",), ("int",)),
    "mod": (("int",), ("int",), ("int",)),
    "eq": (("int",), ("int",), ("bool",)),
    "lt": (("int",), ("int",), ("bool",)),
    "le": (("int",), ("int",), ("bool",)),
    "not": (("bool",), ("bool",)),
    "ref": (("param", 0), ("ref", ("param", 0))),
    "get": (("ref", ("param", 0)), ("param", 0)),
    "put": (("ref", ("param", 0)), ("param", 0), ("unit",)),
    "same": (("ref", ("param", 0)), ("ref", ("param", 0)), ("bool",)),
    "array": (("int",), ("param", 0), ("array", ("param", 0))),
    "at": (("array", ("param", 0)), ("int",), ("param", 0)),
    "place": (("array", ("param", 0)), ("int",), ("param", 0), ("unit",)),
    "size": (("array", ("param", 0)), ("int",)),
    "tell": (("int",), ("unit",)),
    "ask": (("int",),),
}


class Unlike(Exception):
    """Two types that can't be made one."""


class Finder:
    """The finding of a program: what is known of its unknowns, and the names of values that are around.

    A name has an entry (type, general, loose): the unknowns that stand for parameters, and those that do not.
    The types of all expressions are kept, in the sequence in which these are read.
    """

    def __init__(self, makers):
        self.solver = Solver()
        self.makers = {maker[0]: maker for maker in makers}
        self.tops = {}
        self.found = []

    def meet(self, one, other):
        """Makes two types one."""
        if not self.solver.has_made_one(one, other):
            raise Unlike()

    def taken(self, entry):
        """The type of a name as it is used once."""
        loose, general, _ = entry
        table = {number: self.solver.fresh() for number in general}
        return put_for_leaves(loose, "unknown", table)

    def maker_types(self, con):
        """The type of a constructor's argument, None without one, and that of what it makes, as used once."""
        _, name, parameters, argument = self.makers[con]
        table = {parameter: self.solver.fresh() for parameter in parameters}
        if name == "exn":
            made = EXN
        else:
            made = ("data", name, tuple([table[parameter] for parameter in parameters]))
        return (None if argument is None else put_for_leaves(argument, "param", table), made)

    def prim_types(self, word):
        """The list of the types that a prim takes, and behind them the one that it gives, as used once."""
        table = {0: self.solver.fresh()}
        return [put_for_leaves(part, "param", table) for part in PRIM_KINDS[word]]

    def entry(self, loose, is_general, env):
        """The entry of a name of this type; if it may be so, unknowns of no name around become parameters."""
        told = self.solver.known(loose)
        numbers = leaves_of(told, "unknown")
        around = self.loose_around(env) if is_general and numbers else {}
        general = [number for number in numbers if is_general and number not in around]
        return (told, general, [number for number in numbers if number not in general])

    def loose_around(self, env):
        """A dict of the unknowns that stand in the types of the names around."""
        found = {}
        for table in (self.tops, env):
            for name in table:
                for number in table[name][2]:
                    told = self.solver.known(("unknown", number))
                    found.update({inner: True for inner in leaves_of(told, "unknown")})
        return found

    def scheme(self, entry):
        """The scheme of an entry, what is not told of it being unit."""
        told = self.solver.known(entry[0])
        table = {}
        many = 0
        for number in leaves_of(told, "unknown"):
            if number in entry[1]:
                table[number] = ("param", many)
                many += 1
            else:
                table[number] = UNIT
        return (many, put_for_leaves(told, "unknown", table))


def with_entries(env, names, entries):
    """The names around, with further ones."""
    inner = dict(env)
    for name, entry in zip(names, entries):
        inner[name] = entry
    return inner


def lone_entry(finder, loose):
    """The entry of a name that has one type alone."""
    return finder.entry(loose, False, {})


def is_value(expr):
    """Whether an expression is a value as it is written."""
    word = expr[0]
    if word == "con":
        return expr[2] is None or is_value(expr[2])
    if word == "tuple":
        return all([is_value(part) for part in expr[1]])
    return word in ("fn", "var", "int", "bool", "unit")


def find(finder, expr, env):
    """The type of a whole expression, which is kept, too."""
    at = len(finder.found)
    finder.found.append(None)
    action = FORMS[expr[0]]
    finder.found[at] = action(finder, expr, env)
    return finder.found[at]


def find_int(finder, expr, env):
    return INT


def find_bool(finder, expr, env):
    return BOOL


def find_unit(finder, expr, env):
    return UNIT


def find_var(finder, expr, env):
    return finder.taken(env[expr[1]] if expr[1] in env else finder.tops[expr[1]])


def find_con(finder, expr, env):
    argument, made = finder.maker_types(expr[1])
    if argument is not None:
        finder.meet(find(finder, expr[2], env), argument)
    return made


def find_fn(finder, expr, env):
    return find_function(finder, expr[2], expr[3], env)


def find_function(finder, parameter, body, env):
    """The type of a function with this parameter and this body."""
    taken = finder.solver.fresh()
    return ("fun", taken, find(finder, body, with_entries(env, [parameter], [lone_entry(finder, taken)])))


def find_call(finder, expr, env):
    function = find(finder, expr[1], env)
    argument = find(finder, expr[2], env)
    given = finder.solver.fresh()
    finder.meet(function, ("fun", argument, given))
    return given


def find_let(finder, expr, env):
    _, name, first, rest = expr
    entry = finder.entry(find(finder, first, env), is_value(first), env)
    return find(finder, rest, with_entries(env, [name], [entry]))


def find_rec(finder, expr, env):
    names = [member[1] for member in expr[1]]
    return find(finder, expr[2], with_entries(env, names, member_entries(finder, expr[1], env)))


def member_entries(finder, members, env):
    """The entries that the functions of a rec have in what follows."""
    names = [member[1] for member in members]
    types = [finder.solver.fresh() for name in names]
    inner = with_entries(env, names, [lone_entry(finder, loose) for loose in types])
    for member, loose in zip(members, types):
        finder.meet(loose, find_function(finder, member[2], member[3], inner))
    return [finder.entry(loose, True, env) for loose in types]


def find_if(finder, expr, env):
    _, test, first, last = expr
    finder.meet(find(finder, test, env), BOOL)
    given = find(finder, first, env)
    finder.meet(given, find(finder, last, env))
    return given


def find_match(finder, expr, env):
    given = finder.solver.fresh()
    find_rules(finder, expr[2], find(finder, expr[1], env), given, env)
    return given


def find_try(finder, expr, env):
    given = find(finder, expr[1], env)
    find_rules(finder, expr[2], EXN, given, env)
    return given


def find_rules(finder, rules, matched, given, env):
    """Makes the patterns' types one with what is matched, the rules' types one with what is given."""
    for pattern, body in rules:
        bound = {}
        finder.meet(matched, pattern_type(finder, pattern, bound))
        entries = [lone_entry(finder, bound[name]) for name in bound]
        finder.meet(given, find(finder, body, with_entries(env, list(bound), entries)))


def pattern_type(finder, pattern, bound):
    """The type of a pattern; the types of the names that it binds are put into the dict."""
    word = pattern[0]
    if word == "tuple":
        return ("tuple", tuple([pattern_type(finder, part, bound) for part in pattern[1]]))
    if word == "con":
        argument, made = finder.maker_types(pattern[1])
        if argument is not None:
            finder.meet(pattern_type(finder, pattern[2], bound), argument)
        return made
    if word in ("any", "bind"):
        loose = finder.solver.fresh()
        if word == "bind":
            bound[pattern[1]] = loose
        return loose
    return (word,)


def find_tuple(finder, expr, env):
    return ("tuple", tuple([find(finder, part, env) for part in expr[1]]))


def find_seq(finder, expr, env):
    find(finder, expr[1], env)
    return find(finder, expr[2], env)


def find_raise(finder, expr, env):
    finder.meet(find(finder, expr[1], env), EXN)
    return finder.solver.fresh()


def find_prim(finder, expr, env):
    types = finder.prim_types(expr[1])
    for part, loose in zip(expr[2], types):
        finder.meet(find(finder, part, env), loose)
    return types[-1]


FORMS = {
    "int": find_int, "bool": find_bool, "unit": find_unit, "var": find_var, "con": find_con, "fn": find_fn,
    "call": find_call, "let": find_let, "rec": find_rec, "if": find_if, "match": find_match, "tuple": find_tuple,
    "seq": find_seq, "raise": find_raise, "try": find_try, "prim": find_prim,
}
