"""Random straight parts with sorts; the seeds are fixed."""

import random

SORTS = [("x", "int"), ("y", "int"), ("r", "ref"), ("s", "ref"), ("b", "bool"), ("f", "fun"), ("g", "fun"), ("t", "test")]


class Straight:
    def __init__(self, seed, sorts=None):
        self.random = random.Random(seed)
        self.sorts = self.random.sample(SORTS, self.random.randint(2, 6)) if sorts is None else sorts
        self.ifs = 0

    def pick(self, things):
        return self.random.choice(things)

    def names(self, sort, env):
        return [name for name in env if env[name] == sort]

    def part(self, want, depth):
        self.ifs = 0
        return self.expr(want, depth, dict(self.sorts))

    def expr(self, want, depth, env):
        if depth <= 1:
            return self.leaf(want, depth, env)
        ways = [self.leaf, self.let, self.seq, self.own, self.own]
        if self.ifs < 3 and (self.names("bool", env) or self.names("test", env)):
            ways.append(self.choice)
        return self.pick(ways)(want, depth - 1, env)

    def leaf(self, want, depth, env):
        if want == "unit":
            return ("unit",)
        names = self.names(want, env)
        if names and self.random.random() < 0.8:
            return ("var", self.pick(names))
        if want == "ref":
            return ("prim", "ref", (self.leaf("int", depth, env),))
        return ("int", self.pick([0, 1, 2, 3, -1, 65536, 2147483647, -2147483648]))

    def let(self, want, depth, env):
        name, sort = self.pick(["a", "c", "x", "r", "f"]), self.pick(["int", "int", "ref"])
        return ("let", name, self.expr(sort, depth, env), self.expr(want, depth, {**env, name: sort}))

    def seq(self, want, depth, env):
        return ("seq", self.expr(self.pick(["unit", "unit", "int", "ref"]), depth, env), self.expr(want, depth, env))

    def choice(self, want, depth, env):
        self.ifs += 1
        bools, tests = self.names("bool", env), self.names("test", env)
        if bools and (not tests or self.random.random() < 0.5):
            test = ("var", self.pick(bools))
        else:
            test = ("call", ("var", self.pick(tests)), self.expr("int", depth, env))
        return ("if", test, self.expr(want, depth, env), self.expr(want, depth, env))

    def own(self, want, depth, env):
        inner = lambda sort: self.expr(sort, depth, env)
        if want == "ref":
            return ("prim", "ref", (inner("int"),))
        if want == "unit":
            return self.pick([lambda: ("prim", "put", (inner("ref"), inner("int"))), lambda: ("prim", "tell", (inner("int"),))])()
        ways = [lambda: ("prim", self.pick(["add", "sub"]), (inner("int"), inner("int"))),
                lambda: ("prim", "mul", (("int", self.pick([2, 3, -1, 65536])), inner("int"))),
                lambda: ("prim", "mul", (inner("int"), ("int", self.pick([2, 3, -1, 65536])))),
                lambda: ("prim", "get", (inner("ref"),)), lambda: ("prim", "ask", ())]
        functions = self.names("fun", env)
        if functions:
            ways += [lambda: ("call", ("var", self.pick(functions)), inner("int"))] * 2
        return self.pick(ways)()
