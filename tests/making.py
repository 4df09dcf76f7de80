"""Random trees for the tests; the seeds are fixed, so each run sees the same ones."""

import random

NAMES = ["x", "y", "z", "x0", "y0", "f", "g"]
LONGS = ["x", "y", "f", "M.x", "Big.f1"]
BIGS = ["Nil", "Some", "C", "M.D", "Box2"]
SIGNS = ["add", "sub", "mul", "div", "mod", "eq", "lt", "le", "put"]
PRIMS = {
    "add": 2, "sub": 2, "mul": 2, "div": 2, "mod": 2, "eq": 2, "lt": 2, "le": 2, "not": 1, "ref": 1, "get": 1,
    "put": 2, "same": 2, "array": 2, "at": 2, "place": 3, "size": 1, "tell": 1, "ask": 0,
}


class Maker:
    def __init__(self, seed, names=NAMES, longs=LONGS, bigs=BIGS):
        self.random = random.Random(seed)
        self.names = names
        self.longs = longs
        self.bigs = bigs

    def pick(self, things):
        return self.random.choice(things)

    def number(self):
        return self.pick([0, 1, -1, 7, 2147483647, -2147483648, self.random.randint(-999, 999)])

    def expr(self, depth):
        if depth <= 1 or self.random.random() < 0.08:
            return self.lone_expr()
        word = self.pick(["con", "fn", "call", "call", "let", "rec", "if", "match", "tuple", "seq", "raise", "try"]
                         + ["prim"] * 4)
        return getattr(self, word + "_expr")(depth - 1)

    def lone_expr(self):
        return self.pick([
            ("int", self.number()), ("bool", self.pick([True, False])), ("unit",), ("var", self.pick(self.longs)),
            ("var", self.pick(self.longs)), ("var", self.pick(self.longs)), ("con", self.pick(self.bigs), None),
            ("prim", "ask", ()),
        ])

    def con_expr(self, depth):
        return ("con", self.pick(self.bigs), self.expr(depth))

    def fn_expr(self, depth):
        return ("fn", self.pick(self.names), self.expr(depth))

    def call_expr(self, depth):
        return ("call", self.expr(depth), self.expr(depth))

    def let_expr(self, depth):
        return ("let", self.pick(self.names), self.expr(depth), self.expr(depth))

    def functions(self, depth):
        names = self.random.sample(self.names, self.random.randint(1, 3))
        return tuple((name, self.pick(self.names), self.expr(depth)) for name in names)

    def rec_expr(self, depth):
        return ("rec", self.functions(depth), self.expr(depth))

    def if_expr(self, depth):
        return ("if", self.expr(depth), self.expr(depth), self.expr(depth))

    def rules(self, depth):
        return tuple((self.pattern(self.random.randint(1, 3)), self.expr(depth))
                     for _ in range(self.random.randint(1, 3)))

    def match_expr(self, depth):
        return ("match", self.expr(depth), self.rules(depth))

    def try_expr(self, depth):
        return ("try", self.expr(depth), self.rules(depth))

    def tuple_expr(self, depth):
        return ("tuple", tuple(self.expr(depth) for _ in range(self.random.randint(2, 4))))

    def seq_expr(self, depth):
        return ("seq", self.expr(depth), self.expr(depth))

    def raise_expr(self, depth):
        return ("raise", self.expr(depth))

    def prim_expr(self, depth):
        word = self.pick(SIGNS + ["get", "get"] + list(PRIMS))
        return ("prim", word, tuple(self.expr(depth) for _ in range(PRIMS[word])))

    def pattern(self, depth, free=None):
        free = list(self.names) if free is None else free
        if depth <= 1 or self.random.random() < 0.3:
            if free and self.random.random() < 0.5:
                return ("bind", free.pop(self.random.randrange(len(free))))
            return self.pick([("any",), ("int", self.number()), ("bool", True), ("bool", False), ("unit",),
                              ("con", self.pick(self.bigs), None)])
        if self.random.random() < 0.5:
            return ("con", self.pick(self.bigs), self.pattern(depth - 1, free))
        return ("tuple", tuple(self.pattern(depth - 1, free) for _ in range(self.random.randint(2, 4))))

    def written(self, depth):
        if depth <= 1 or self.random.random() < 0.2:
            return self.pick([("int",), ("bool",), ("unit",), ("exn",), ("param", self.pick(self.names)),
                              ("data", self.pick(self.longs), ())])
        word = self.pick(["fun", "fun", "tuple", "tuple", "ref", "array", "data"])
        if word == "data":
            return ("data", self.pick(self.longs), self.writtens(depth - 1, 0, 3))
        if word == "tuple":
            return ("tuple", self.writtens(depth - 1, 2, 4))
        return (word,) + self.writtens(depth - 1, 2, 2)[:2 if word == "fun" else 1]

    def writtens(self, depth, least, most):
        return tuple(self.written(depth) for _ in range(self.random.randint(least, most)))

    def case(self):
        return (self.pick(["A", "B", "Cc"]), self.pick([None, self.written(3)]))

    def decl(self, depth):
        word = self.pick(["type", "exception", "let", "rec", "do"])
        if word == "type":
            parameters = tuple(self.random.sample(self.names, self.random.randint(0, 3)))
            return ("type", self.pick(self.names), parameters,
                    tuple(self.case() for _ in range(self.random.randint(1, 6))))
        if word == "exception":
            return ("exception",) + self.case()
        if word == "let":
            return ("let", self.pick(self.names), self.expr(depth))
        if word == "rec":
            return ("rec", self.functions(depth))
        return ("do", self.expr(depth))

    def shows(self):
        if self.random.random() < 0.4:
            return None
        return tuple(self.random.sample(self.names + ["A", "B", "C", "D"], self.random.randint(0, 5)))

    def program(self, depth):
        return tuple(
            ("module", self.pick(["M", "N", "Long1"]), self.shows(),
             tuple(self.decl(depth) for _ in range(self.random.randint(0, 4))))
            for _ in range(self.random.randint(1, 3)))
