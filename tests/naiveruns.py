"""A second, naive way to run programs: it calls itself for each part, and raises Python's own errors."""

from changedsame.wholes import resolved


class Raised(Exception):
    pass


class Spent(Exception):
    pass


def wrap(number):
    while number > 2147483647:
        number -= 4294967296 * max(1, number // 4294967296)
    while number < -2147483648:
        number += 4294967296 * max(1, -number // 4294967296)
    return number


class Cell:
    def __init__(self, run, fields):
        self.fields = fields
        run.cells += 1


class Function(Cell):
    def __init__(self, run, label, parameter, body):
        Cell.__init__(self, run, [])
        self.label, self.parameter, self.body = label, parameter, body
        self.env = {}


class NaiveRun:
    def __init__(self, program, inputs, ticks):
        self.inputs, self.left, self.ticks = list(inputs), list(inputs), ticks
        self.trace, self.tops, self.cells = [], {}, 0
        try:
            for decl in resolved(program).decls():
                self.declare(decl)
            self.end = ("done",)
        except Raised as error:
            self.end = ("raised", error.args[0][1])
        except Spent:
            self.end = ("spent",)

    def declare(self, decl):
        if decl[0] == "let":
            self.tops[decl[1]] = self.work(decl[2], {})
        elif decl[0] == "do":
            self.work(decl[1], {})
        elif decl[0] == "rec":
            for label, name, parameter, body in decl[1]:
                self.tops[name] = Function(self, label, parameter, body)

    def fail(self, value):
        self.trace.append(("raise", value[1]))
        raise Raised(value)

    def base(self, name):
        self.fail(("con", name, None))

    def rule(self, rules, value, env):
        for pattern, body in rules:
            bound = {}
            if fits(pattern, value, bound):
                return True, self.work(body, {**env, **bound})
        return False, None

    def work(self, expr, env):
        return getattr(self, "do_" + expr[0])(expr, env)

    def do_int(self, expr, env):
        return expr[1]

    do_bool = do_int

    def do_unit(self, expr, env):
        return ()

    def do_var(self, expr, env):
        return env[expr[1]] if expr[1] in env else self.tops[expr[1]]

    def do_con(self, expr, env):
        return ("con", expr[1], None if expr[2] is None else self.work(expr[2], env))

    def do_fn(self, expr, env):
        made = Function(self, expr[1], expr[2], expr[3])
        made.env = env
        return made

    def do_rec(self, expr, env):
        made = {member[1]: Function(self, member[0], member[2], member[3]) for member in expr[1]}
        inner = {**env, **made}
        for function in made.values():
            function.env = inner
        return self.work(expr[2], inner)

    def do_call(self, expr, env):
        function = self.work(expr[1], env)
        argument = self.work(expr[2], env)
        if self.ticks == 0:
            raise Spent()
        self.ticks -= 1
        self.trace.append(("call", function.label))
        return self.work(function.body, {**function.env, function.parameter: argument})

    def do_let(self, expr, env):
        return self.work(expr[3], {**env, expr[1]: self.work(expr[2], env)})

    def do_if(self, expr, env):
        return self.work(expr[2] if self.work(expr[1], env) else expr[3], env)

    def do_match(self, expr, env):
        is_fit, given = self.rule(expr[2], self.work(expr[1], env), env)
        return given if is_fit else self.base("NoMatch")

    def do_try(self, expr, env):
        try:
            return self.work(expr[1], env)
        except Raised as error:
            value = error.args[0]
        is_fit, given = self.rule(expr[2], value, env)
        return given if is_fit else self.fail(value)

    def do_tuple(self, expr, env):
        return ("tuple", [self.work(part, env) for part in expr[1]])

    def do_seq(self, expr, env):
        self.work(expr[1], env)
        return self.work(expr[2], env)

    def do_raise(self, expr, env):
        self.fail(self.work(expr[1], env))

    def do_prim(self, expr, env):
        return getattr(self, "prim_" + expr[1])(*[self.work(part, env) for part in expr[2]])

    def prim_add(self, a, b):
        return wrap(a + b)

    def prim_sub(self, a, b):
        return wrap(a - b)

    def prim_mul(self, a, b):
        return wrap(a * b)

    def prim_div(self, a, b):
        return wrap(a // b) if b else self.base("DivZero")

    def prim_mod(self, a, b):
        return a - b * (a // b) if b else self.base("DivZero")

    def prim_eq(self, a, b):
        return a == b

    def prim_lt(self, a, b):
        return a < b

    def prim_le(self, a, b):
        return a <= b

    def prim_not(self, a):
        return not a

    def prim_ref(self, a):
        return Cell(self, [a])

    def prim_get(self, cell):
        return cell.fields[0]

    def prim_put(self, cell, a):
        cell.fields[0] = a
        return ()

    def prim_same(self, a, b):
        return a is b

    def prim_array(self, many, a):
        return Cell(self, [a] * many) if 0 <= many <= 64 else self.base("Bounds")

    def prim_at(self, cell, at):
        return cell.fields[at] if 0 <= at < len(cell.fields) else self.base("Bounds")

    def prim_place(self, cell, at, a):
        if not 0 <= at < len(cell.fields):
            self.base("Bounds")
        cell.fields[at] = a
        return ()

    def prim_size(self, cell):
        return len(cell.fields)

    def prim_tell(self, a):
        self.trace.append(("tell", a))
        return ()

    def prim_ask(self):
        if not self.left:
            self.base("NoMore")
        self.trace.append(("ask", self.left[0]))
        return self.left.pop(0)


def fits(pattern, value, bound):
    word = pattern[0]
    if word == "any":
        return True
    if word == "bind":
        bound[pattern[1]] = value
        return True
    if word in ("int", "bool"):
        return value == pattern[1]
    if word == "unit":
        return True
    if word == "tuple":
        return all([fits(part, given, bound) for part, given in zip(pattern[1], value[1])])
    return value[1] == pattern[1] and (pattern[2] is None or fits(pattern[2], value[2], bound))
