"""Types found the long way: substitutions that are applied to everything, and types in env looked at anew each time."""

INT, BOOL, UNIT, EXN = ("int",), ("bool",), ("unit",), ("exn",)


class No(Exception):
    pass


class Naive:
    def __init__(self, cons):
        self.cons = {con[0]: con for con in cons}
        self.table = {}
        self.next = 0
        self.told = []

    def new(self):
        self.next += 1
        return ("unknown", self.next)

    def sub(self, t):
        if t[0] == "unknown":
            return self.sub(self.table[t[1]]) if t[1] in self.table else t
        return tuple(self.sub(p) if isinstance(p, tuple) and p and isinstance(p[0], str) else
                     tuple(self.sub(q) for q in p) if isinstance(p, tuple) else p for p in t)

    def unknowns(self, t):
        if t[0] == "unknown":
            return [t[1]]
        found = []
        for p in t:
            if isinstance(p, tuple):
                for q in ([p] if p and isinstance(p[0], str) else p):
                    found += [k for k in self.unknowns(q) if k not in found]
        return found

    def unify(self, a, b):
        a, b = self.sub(a), self.sub(b)
        if a == b:
            return
        if a[0] == "unknown":
            if a[1] in self.unknowns(b):
                raise No
            self.table[a[1]] = b
        elif b[0] == "unknown":
            self.unify(b, a)
        elif a[0] == b[0] == "tuple" and len(a[1]) == len(b[1]):
            for p, q in zip(a[1], b[1]):
                self.unify(p, q)
        elif a[0] == b[0] == "data" and a[1] == b[1] and len(a[2]) == len(b[2]):
            for p, q in zip(a[2], b[2]):
                self.unify(p, q)
        elif a[0] == b[0] and a[0] in ("fun", "ref", "array"):
            for p, q in zip(a[1:], b[1:]):
                self.unify(p, q)
        else:
            raise No

    def put(self, t, table):
        if t[0] in ("unknown", "param"):
            return table.get(t[1], t)
        return tuple(self.put(p, table) if isinstance(p, tuple) and p and isinstance(p[0], str) else
                     tuple(self.put(q, table) for q in p) if isinstance(p, tuple) else p for p in t)

    def con(self, name):
        _, owner, parameters, argument = self.cons[name]
        table = {p: self.new() for p in parameters}
        made = EXN if owner == "exn" else ("data", owner, tuple(table[p] for p in parameters))
        return made, None if argument is None else self.put(argument, table)

    def value(self, e):
        if e[0] == "tuple":
            return all(self.value(p) for p in e[1])
        if e[0] == "con":
            return e[2] is None or self.value(e[2])
        return e[0] in ("fn", "var", "int", "bool", "unit")

    def close(self, t, env, may):
        t = self.sub(t)
        around = {k for s, ps in env.values() for k in self.unknowns(self.sub(s)) if k not in ps}
        return (t, {k for k in self.unknowns(t) if k not in around} if may else set())

    def prim(self, word):
        a = self.new()
        if word in ("add", "sub", "mul", "div", "mod"):
            return [INT, INT], INT
        if word in ("eq", "lt", "le"):
            return [INT, INT], BOOL
        return {"not": ([BOOL], BOOL), "ref": ([a], ("ref", a)), "get": ([("ref", a)], a),
                "put": ([("ref", a), a], UNIT), "same": ([("ref", a), ("ref", a)], BOOL),
                "array": ([INT, a], ("array", a)), "at": ([("array", a), INT], a),
                "place": ([("array", a), INT, a], UNIT), "size": ([("array", a)], INT),
                "tell": ([INT], UNIT), "ask": ([], INT)}[word]

    def pattern(self, p, t, env):
        if p[0] == "bind":
            env[p[1]] = (t, set())
        elif p[0] in ("int", "bool", "unit"):
            self.unify(t, (p[0],))
        elif p[0] == "tuple":
            parts = [self.new() for _ in p[1]]
            self.unify(t, ("tuple", tuple(parts)))
            for q, s in zip(p[1], parts):
                self.pattern(q, s, env)
        elif p[0] == "con":
            made, argument = self.con(p[1])
            self.unify(t, made)
            if argument is not None:
                self.pattern(p[2], argument, env)

    def members(self, members, env):
        inner = dict(env)
        types = [("fun", self.new(), self.new()) for _ in members]
        for (_, name, _, _), t in zip(members, types):
            inner[name] = (t, set())
        for (_, _, parameter, body), t in zip(members, types):
            self.expr(body, t[2], {**inner, parameter: (t[1], set())})
        return {**env, **{m[1]: self.close(t, env, True) for m, t in zip(members, types)}}

    def expr(self, e, t, env):
        """Gives an expression a type that is told from outside."""
        self.told.append(t)
        word = e[0]
        if word in ("int", "bool", "unit"):
            self.unify(t, (word,))
        elif word == "var":
            s, ps = env[e[1]]
            self.unify(t, self.put(self.sub(s), {k: self.new() for k in ps}))
        elif word == "con":
            made, argument = self.con(e[1])
            self.unify(t, made)
            if argument is not None:
                self.expr(e[2], argument, env)
        elif word == "fn":
            a, b = self.new(), self.new()
            self.unify(t, ("fun", a, b))
            self.expr(e[3], b, {**env, e[2]: (a, set())})
        elif word == "call":
            a = self.new()
            self.expr(e[1], ("fun", a, t), env)
            self.expr(e[2], a, env)
        elif word == "let":
            a = self.new()
            self.expr(e[2], a, env)
            self.expr(e[3], t, {**env, e[1]: self.close(a, env, self.value(e[2]))})
        elif word == "rec":
            self.expr(e[2], t, self.members(e[1], env))
        elif word == "if":
            self.expr(e[1], BOOL, env)
            self.expr(e[2], t, env)
            self.expr(e[3], t, env)
        elif word in ("match", "try"):
            a = self.new() if word == "match" else EXN
            self.expr(e[1], a if word == "match" else t, env)
            for p, body in e[2]:
                bound = {}
                self.pattern(p, a, bound)
                self.expr(body, t, {**env, **bound})
        elif word == "tuple":
            parts = [self.new() for _ in e[1]]
            self.unify(t, ("tuple", tuple(parts)))
            for q, s in zip(e[1], parts):
                self.expr(q, s, env)
        elif word == "seq":
            self.expr(e[1], self.new(), env)
            self.expr(e[2], t, env)
        elif word == "raise":
            self.expr(e[1], EXN, env)
        else:
            takes, gives = self.prim(e[1])
            self.unify(t, gives)
            for q, s in zip(e[2], takes):
                self.expr(q, s, env)


def naive_env(naive, whole):
    """What is found of all values: a dict, or the position of the first declaration that clashes.

    Behind it the list of the numbers of types that each declaration told, and whether it is general.
    """
    env = {}
    rows = []
    for position, decl in enumerate(whole.decls()):
        begin = len(naive.told)
        try:
            if decl[0] == "let":
                t = naive.new()
                naive.expr(decl[2], t, env)
                env[decl[1]] = naive.close(t, env, naive.value(decl[2]))
            elif decl[0] == "rec":
                env = naive.members(decl[1], env)
            elif decl[0] == "do":
                naive.expr(decl[1], naive.new(), env)
        except No:
            return position, rows
        is_general = decl[0] == "rec" or (decl[0] == "let" and naive.value(decl[2]))
        rows += [is_general] * (len(naive.told) - begin)
    return env, rows


def naive_types(whole):
    """The types of all expressions of an accepted program, in the sequence of places."""
    naive = Naive(whole.cons())
    env, rows = naive_env(naive, whole)
    fixed = {k for t, ps in env.values() for k in naive.unknowns(naive.sub(t)) if k not in ps}
    found = []
    for t, is_general in zip(naive.told, rows):
        t = naive.sub(t)
        table = {}
        for k in naive.unknowns(t):
            table[k] = ("unknown", len([v for v in table.values() if v != UNIT])) if is_general and k not in fixed else UNIT
        found.append(naive.put(t, table))
    return found


def naive_schemes(whole):
    """The position of the first declaration that clashes, or the list of the tuples (global, scheme)."""
    naive = Naive(whole.cons())
    env, _ = naive_env(naive, whole)
    if not isinstance(env, dict):
        return env
    found = []
    for name in whole.value_names():
        t, ps = env[name]
        t = naive.sub(t)
        order = [k for k in naive.unknowns(t) if k in ps]
        table = {k: ("param", order.index(k)) if k in ps else UNIT for k in naive.unknowns(t)}
        found.append((name, (len(order), naive.put(t, table))))
    return found
