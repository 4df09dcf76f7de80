"""A run of a whole program, in steps that may stop wherever a call is due.

A step is a tuple: ("decl",) begins the next declaration, ("work", expression, bindings) works an expression,
("give", value) gives a value to what waits for it, ("raise", value) looks for a try, ("call", cell, argument)
is a call that is due. What waits are frames (expression, bindings, values of its parts so far).
"""

from changedsame.labels import captures
from changedsame.matches import bound_by
from changedsame.prims import PRIM_WORKS, raised, raised_plain
from changedsame.stores import Store, new_cell


class Running:
    """The state of a run, which changes as steps are done."""

    def __init__(self, whole, inputs):
        self.told = whole.decls()
        self.inputs = list(inputs)
        self.asked = 0
        self.store = Store()
        self.functions = {}
        self.label_of = {}
        self.tops = {}
        self.events = []
        self.frames = []
        self.begun = 0
        self.calls = 0
        self.final = None
        self.step = ("decl",)


def run_on(running, ticks):
    """Goes on until the run ends, or so many further ticks are made and a further call is due."""
    left = ticks
    while running.final is None:
        step = running.step
        if step[0] == "call":
            if left == 0:
                return
            left = left - 1
        action = STEPS[step[0]]
        running.step = action(running, step)


def begin_decl(running, step):
    """Begins the next declaration, or ends the run."""
    if running.begun == len(running.told):
        running.final = ("done",)
        return step
    decl = running.told[running.begun]
    running.begun += 1
    if decl[0] == "let":
        return ("work", decl[2], {})
    if decl[0] == "do":
        return ("work", decl[1], {})
    if decl[0] == "rec":
        for label, name, parameter, body in decl[1]:
            running.tops[name] = made_function(running, label, parameter, body)
    return ("decl",)


def made_function(running, label, parameter, body):
    """Makes the cell of a function that captures nothing so far."""
    if label not in running.functions:
        running.functions[label] = (parameter, body, captures(parameter, body))
    cell = new_cell(running.store, "closure", [])
    running.label_of[cell] = label
    return ("cell", cell)


def capture(running, value, bindings):
    """Sets the fields of a new function's cell."""
    names = running.functions[running.label_of[value[1]]][2]
    running.store.held[value[1]] = [bindings[name] for name in names]


def work(running, step):
    """Works an expression, as far as its first part."""
    _, expr, bindings = step
    word = expr[0]
    if word == "var":
        name = expr[1]
        return ("give", bindings[name] if name in bindings else running.tops[name])
    if word == "fn":
        made = made_function(running, expr[1], expr[2], expr[3])
        capture(running, made, bindings)
        return ("give", made)
    if word == "rec":
        return work_rec(running, expr, bindings)
    if word in ("int", "bool", "unit") or (word == "con" and expr[2] is None):
        return ("give", expr)
    if word == "prim" and not expr[2]:
        return do_prim(running, expr, ())
    running.frames.append((expr, bindings, ()))
    return ("work", parts_of_work(expr)[0], bindings)


def parts_of_work(expr):
    """The parts of an expression that are worked one behind another, or the first one of which is due."""
    word = expr[0]
    if word in ("tuple", "prim"):
        return expr[-1]
    if word in ("con", "let"):
        return expr[2:3]
    return expr[1:3] if word in ("call", "seq") else expr[1:2]


def work_rec(running, expr, bindings):
    inner = dict(bindings)
    made = []
    for label, name, parameter, body in expr[1]:
        inner[name] = made_function(running, label, parameter, body)
        made.append(inner[name])
    for value in made:
        capture(running, value, inner)
    return ("work", expr[2], inner)


def give(running, step):
    """Gives a value to the frame that waits for it, or to the declaration."""
    value = step[1]
    if not running.frames:
        decl = running.told[running.begun - 1]
        if decl[0] == "let":
            running.tops[decl[1]] = value
        return ("decl",)
    expr, bindings, values = running.frames.pop()
    word = expr[0]
    if word in CHOICES:
        action = CHOICES[word]
        return action(running, expr, bindings, value)
    values = values + (value,)
    parts = parts_of_work(expr)
    if len(values) < len(parts):
        running.frames.append((expr, bindings, values))
        return ("work", parts[len(values)], bindings)
    action = FINISHES[word]
    return action(running, expr, values)


def choose_let(running, expr, bindings, value):
    inner = dict(bindings)
    inner[expr[1]] = value
    return ("work", expr[3], inner)


def choose_if(running, expr, bindings, value):
    return ("work", expr[2] if value[1] else expr[3], bindings)


def choose_rule(running, expr, bindings, value):
    step = fitting_rule(expr[2], value, bindings)
    return raised_plain(running, "NoMatch") if step is None else step


def fitting_rule(rules, value, bindings):
    """The step into the first rule whose pattern fits, or None."""
    for pattern, body in rules:
        found = bound_by(pattern, value)
        if found is not None:
            inner = dict(bindings)
            for name, given in found:
                inner[name] = given
            return ("work", body, inner)
    return None


def leave_try(running, expr, bindings, value):
    return ("give", value)


def make_con(running, expr, values):
    return ("give", ("con", expr[1], values[0]))


def make_tuple(running, expr, values):
    return ("give", ("tuple", values))


def call_function(running, expr, values):
    return ("call", values[0][1], values[1])


def give_last(running, expr, values):
    return ("give", values[1])


def raise_value(running, expr, values):
    return raised(running, values[0])


def do_prim(running, expr, values):
    action = PRIM_WORKS[expr[1]]
    return action(running, values)


def enter(running, step):
    """A call: a tick, an event, and its body."""
    _, cell, argument = step
    label = running.label_of[cell]
    parameter, body, names = running.functions[label]
    running.calls += 1
    running.events.append(("call", label))
    bindings = {}
    for name, value in zip(names, running.store.held[cell]):
        bindings[name] = value
    bindings[parameter] = argument
    return ("work", body, bindings)


def unwind(running, step):
    """Looks for the innermost try; if its rules don't fit, the same value is raised anew."""
    value = step[1]
    while running.frames:
        expr, bindings, _ = running.frames.pop()
        if expr[0] == "try":
            found = fitting_rule(expr[2], value, bindings)
            return raised(running, value) if found is None else found
    running.final = ("raised", value[1])
    return step


CHOICES = {"let": choose_let, "if": choose_if, "match": choose_rule, "try": leave_try}

FINISHES = {
    "con": make_con, "tuple": make_tuple, "call": call_function, "seq": give_last, "raise": raise_value,
    "prim": do_prim,
}

STEPS = {"decl": begin_decl, "work": work, "give": give, "raise": unwind, "call": enter}
