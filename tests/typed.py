"""Random programs that are accepted, for tests of runs and of changes; the seeds are fixed."""

import random

INT, BOOL, UNIT, EXN = ("int",), ("bool",), ("unit",), ("exn",)
REF = ("ref", INT)
ARRAY = ("array", INT)
FUN = ("fun", INT, INT)
TEST = ("fun", INT, BOOL)
PAIR = ("tuple", (INT, BOOL))
LIST = ("data", "list", (INT,))
OPTION = ("data", "option", (INT,))
TYPES = [INT, INT, INT, BOOL, UNIT, REF, ARRAY, FUN, TEST, PAIR, LIST, OPTION, EXN]
NAMES = ["a", "b", "c", "x", "y", "f"]
NUMBERS = [0, 1, 2, 3, -1, -2, 64, 65, 2147483647, -2147483648]


class Typed:
    """Makes programs; what is seen is kept as dicts of names and types."""

    def __init__(self, seed, names=NAMES):
        self.random = random.Random(seed)
        self.names = names
        self.tops = {}
        self.makers = {}

    def pick(self, things):
        return self.random.choice(things)

    def expr(self, want, depth, env):
        """An expression of a closed type."""
        ways = [self.leaf]
        if depth > 1:
            ways = [self.leaf, self.let, self.use_if, self.use_match, self.seq, self.use_try, self.call, self.own,
                    self.own, self.own, self.call_fn, self.rec]
            if self.random.random() < 0.06:
                ways = [self.raising]
        return self.pick(ways)(want, depth - 1, env)

    def leaf(self, want, depth, env):
        seen = {**self.tops, **env}
        fitting = [name for name in seen if seen[name] == want]
        if fitting and self.random.random() < 0.7:
            return ("var", self.pick(fitting))
        return self.literal(want, depth, env)

    def literal(self, want, depth, env):
        if want == INT:
            return ("int", self.pick(NUMBERS))
        if want == BOOL:
            return ("bool", self.pick([True, False]))
        if want == UNIT:
            return ("unit",)
        if want == EXN:
            return self.exception(env)
        if want[0] == "ref":
            return ("prim", "ref", (self.leaf(want[1], 0, env),))
        if want[0] == "array":
            return ("prim", "array", (("int", self.pick([0, 1, 3])), self.leaf(want[1], 0, env)))
        if want[0] == "fun":
            name = self.pick(self.names)
            return ("fn", name, self.expr(want[2], depth, {**env, name: want[1]}))
        if want[0] == "tuple":
            return ("tuple", tuple(self.leaf(part, 0, env) for part in want[1]))
        if want[1] == "list":
            return ("con", "Nil", None)
        if want[1] == "option":
            return self.pick([("con", "None", None), ("con", "Some", self.leaf(INT, 0, env))])
        return self.made(want, 1, env)

    def exception(self, env):
        name = self.pick([name for name in self.makers if self.makers[name][0] == EXN])
        return self.with_argument(name, 1, env)

    def with_argument(self, name, depth, env):
        argument = self.makers[name][1]
        return ("con", name, None if argument is None else self.expr(argument, depth, env))

    def made(self, want, depth, env):
        return self.with_argument(self.pick([name for name in self.makers if self.makers[name][0] == want]), depth, env)

    def own(self, want, depth, env):
        inner = lambda kind: self.expr(kind, depth, env)
        prim = lambda word, *kinds: ("prim", word, tuple(inner(kind) for kind in kinds))
        if want == INT:
            return self.pick([
                lambda: prim(self.pick(["add", "sub", "mul", "div", "mod"]), INT, INT), lambda: prim("get", REF),
                lambda: prim("at", ARRAY, INT), lambda: prim("size", ARRAY), lambda: prim("ask")])()
        if want == BOOL:
            return self.pick([lambda: prim(self.pick(["eq", "lt", "le"]), INT, INT), lambda: prim("not", BOOL),
                              lambda: prim("same", REF, REF)])()
        if want == UNIT:
            return self.pick([lambda: prim("put", REF, INT), lambda: prim("place", ARRAY, INT, INT),
                              lambda: prim("tell", INT)])()
        if want == REF:
            return prim("ref", INT)
        if want == ARRAY:
            return ("prim", "array", (("int", self.pick([0, 1, 2, 64, 65, -1])), inner(INT)))
        if want[0] == "tuple":
            return ("tuple", tuple(inner(part) for part in want[1]))
        if want == LIST:
            return ("con", "Cons", ("tuple", (inner(INT), inner(LIST))))
        if want[0] == "data" and want[1] not in ("list", "option"):
            return self.made(want, depth, env)
        return self.literal(want, depth, env)

    def let(self, want, depth, env):
        name, kind = self.pick(self.names), self.pick(TYPES)
        return ("let", name, self.expr(kind, depth, env), self.expr(want, depth, {**env, name: kind}))

    def use_if(self, want, depth, env):
        return ("if", self.expr(BOOL, depth, env), self.expr(want, depth, env), self.expr(want, depth, env))

    def seq(self, want, depth, env):
        return ("seq", self.expr(self.pick(TYPES), depth, env), self.expr(want, depth, env))

    def raising(self, want, depth, env):
        return ("raise", self.expr(EXN, depth, env))

    def use_try(self, want, depth, env):
        return ("try", self.expr(want, depth, env), self.rules(EXN, want, depth, env))

    def use_match(self, want, depth, env):
        own = ("data", "M.t", ())
        kind = self.pick(TYPES + [own] * 3 if own in [maker[0] for maker in self.makers.values()] else TYPES)
        return ("match", self.expr(kind, depth, env), self.rules(kind, want, depth, env))

    def rules(self, kind, want, depth, env):
        return tuple(self.rule(kind, want, depth, env) for _ in range(self.random.randint(1, 3)))

    def rule(self, kind, want, depth, env):
        free = list(self.names)
        bound = {}
        pattern = self.pattern(kind, 3, free, bound)
        return (pattern, self.expr(want, depth, {**env, **bound}))

    def pattern(self, kind, depth, free, bound):
        if free and self.random.random() < 0.25:
            name = free.pop(self.random.randrange(len(free)))
            bound[name] = kind
            return ("bind", name)
        if depth == 0 or self.random.random() < 0.15:
            return ("any",)
        if kind == INT:
            return ("int", self.pick(NUMBERS[:4]))
        if kind == BOOL:
            return ("bool", self.pick([True, False]))
        if kind == UNIT:
            return ("unit",)
        if kind[0] == "tuple":
            return ("tuple", tuple(self.pattern(part, depth - 1, free, bound) for part in kind[1]))
        makers = [name for name in self.makers if self.makers[name][0] == kind]
        if not makers:
            return ("any",)
        name = self.pick(makers)
        inner = self.makers[name][1]
        return ("con", name, None if inner is None else self.pattern(inner, depth - 1, free, bound))

    def call(self, want, depth, env):
        seen = {**self.tops, **env}
        functions = [name for name in seen if seen[name][0] == "fun" and seen[name][2] == want]
        if not functions:
            return self.own(want, depth, env)
        name = self.pick(functions)
        return ("call", ("var", name), self.expr(seen[name][1], depth, env))

    def call_fn(self, want, depth, env):
        name, kind = self.pick(self.names), self.pick(TYPES)
        return ("call", ("fn", name, self.expr(want, depth, {**env, name: kind})), self.expr(kind, depth, env))

    def members(self, depth, env):
        names = self.random.sample(self.names, self.random.randint(1, 2))
        kinds = {name: ("fun", self.pick([INT, INT, BOOL, PAIR]), self.pick([INT, INT, UNIT, BOOL])) for name in names}
        rows = []
        for name in names:
            parameter = self.pick(self.names)
            inner = {**env, **kinds, parameter: kinds[name][1]}
            rows.append((name, parameter, self.expr(kinds[name][2], depth, inner)))
        return tuple(rows), kinds

    def rec(self, want, depth, env):
        rows, kinds = self.members(depth, env)
        return ("rec", rows, self.expr(want, depth, {**env, **kinds}))

    def program(self, depth, modules=2, decls=4):
        """A program of some modules; most show all."""
        self.base = {"Nil": (LIST, None), "Cons": (LIST, ("tuple", (INT, LIST))), "None": (OPTION, None),
                     "Some": (OPTION, INT), "DivZero": (EXN, None), "Bounds": (EXN, None), "NoMore": (EXN, None),
                     "NoMatch": (EXN, None)}
        told = []
        others = {}
        others_makers = {}
        for title in ["M", "N", "Box"][:modules]:
            mine, my_makers, rows = {}, {}, []
            self.tops = dict(others)
            self.makers = {**self.base, **others_makers}
            if title == "M" and self.random.random() < 0.5:
                rows.append(("type", "t", (), (("A", None), ("B", ("int",)), ("C", ("tuple", (("int",), ("bool",)))))))
                kind = ("data", "M.t", ())
                my_makers.update({"A": (kind, None), "B": (kind, INT), "C": (kind, PAIR)})
                self.makers.update(my_makers)
            if self.random.random() < 0.5:
                argument = self.pick([None, INT])
                rows.append(("exception", "E", argument))
                my_makers["E"] = (EXN, argument)
                self.makers["E"] = my_makers["E"]
            free = list(self.names) + ["d", "e", "g", "h"]
            for _ in range(self.random.randint(1, decls)):
                word = self.pick(["let", "let", "rec", "do"])
                if word == "do":
                    rows.append(("do", self.expr(self.pick(TYPES), depth, {})))
                elif word == "let":
                    kind = self.pick(TYPES)
                    expr = self.expr(kind, depth, {})
                    name = free.pop(self.random.randrange(len(free)))
                    rows.append(("let", name, expr))
                    mine[name] = kind
                else:
                    keep = self.names
                    self.names = free
                    members, kinds = self.members(depth, {})
                    self.names = keep
                    free = [name for name in free if name not in kinds]
                    rows.append(("rec", members))
                    mine.update(kinds)
                self.tops.update(mine)
            shows = None
            if self.random.random() < 0.3:
                things = list(mine) + list(my_makers)
                shows = tuple(self.random.sample(things, self.random.randint(0, len(things))))
            told.append(("module", title, shows, tuple(rows)))
            seen = lambda name: shows is None or name in shows
            others.update({f"{title}.{name}": mine[name] for name in mine if seen(name)})
            others_makers.update({f"{title}.{name}": my_makers[name] for name in my_makers if seen(name)})
        return tuple(told)
