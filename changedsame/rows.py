"""What the outside sees of a straight part: its row."""

from changedsame.basics import is_count
from changedsame.errors import InvalidAnswers, InvalidBits, InvalidPartition, InvalidSorts, InvalidStraight
from changedsame.linears import lone_atom, lone_number, mixed
from changedsame.straights import is_sorts, is_straight, names_of

MOST_ANSWERS = 12


def is_partition(sorts, value):
    """Whether any value is a partition of the open refs."""
    if not is_sorts(sorts):
        raise InvalidSorts(sorts)
    if not isinstance(value, (list, tuple)) or len(value) != len(names_of(sorts, "ref")):
        return False
    following = 0
    for at in value:
        if not is_count(at) or at > following:
            return False
        following = max(following, at + 1)
    return True


def are_bools(value):
    """Whether any value is a list of bools."""
    return isinstance(value, (list, tuple)) and all([isinstance(bit, bool) for bit in value])


def row(part, sorts, partition, bits, answers):
    """The row of a straight part: the list of its points."""
    if not is_straight(part, sorts):
        raise InvalidStraight(part)
    if not is_partition(sorts, partition):
        raise InvalidPartition(partition)
    if not are_bools(bits) or len(bits) != len(names_of(sorts, "bool")):
        raise InvalidBits(bits)
    if not are_bools(answers) or len(answers) > MOST_ANSWERS:
        raise InvalidAnswers(answers)
    return row_of(part, sorts, partition, bits, answers)


class Outside:
    """What is so far while a straight part is worked: the points, what each cell holds, what was answered.

    The cells of the classes come first, those that are made anew behind them.
    """

    def __init__(self, many, answers):
        self.many_classes = many
        self.holds = [lone_atom(("start", at)) for at in range(many)]
        self.answers = answers
        self.points = []
        self.asked = 0
        self.called = 0
        self.answered = 0


def row_of(part, sorts, partition, bits, answers):
    """The same of what is known to be right."""
    outside = Outside(len({at: True for at in partition}), answers)
    env = {name: ("num", lone_atom(("name", name))) for name in names_of(sorts, "int")}
    for name, at in zip(names_of(sorts, "ref"), partition):
        env[name] = ("cell", at)
    for name, bit in zip(names_of(sorts, "bool"), bits):
        env[name] = ("bit", bit)
    value = worked(outside, part, env)
    outside.points.append(("end", last_value(outside, value), held(outside)))
    return outside.points


def held(outside):
    """What the classes hold now."""
    return tuple(outside.holds[:outside.many_classes])


def last_value(outside, value):
    """A part's value as its end tells it."""
    if value[0] == "cell":
        at = value[1]
        return ("open", at) if at < outside.many_classes else ("new", outside.holds[at])
    return value[1]


def worked(outside, expr, env):
    """The value of an expression: ("num", form), ("unit", None) or ("cell", number)."""
    word = expr[0]
    if word == "int":
        return ("num", lone_number(expr[1]))
    if word == "unit":
        return (word, None)
    if word == "var":
        return env[expr[1]]
    if word == "call":
        ask_outside(outside, word, expr, env)
        return ("num", lone_atom(("result", outside.called - 1)))
    if word == "let":
        inner = {name: env[name] for name in env}
        inner[expr[1]] = worked(outside, expr[2], env)
        return worked(outside, expr[3], inner)
    if word == "seq":
        worked(outside, expr[1], env)
        return worked(outside, expr[2], env)
    if word == "if":
        return worked(outside, expr[2] if is_true(outside, expr[1], env) else expr[3], env)
    values = [worked(outside, part, env)[1] for part in expr[2]]
    action = WORKS[expr[1]]
    return action(outside, values)


def ask_outside(outside, word, expr, env):
    """A call of an open function or test, behind which each class may hold whatever."""
    form = worked(outside, expr[2], env)[1]
    outside.points.append((word, expr[1][1], form, held(outside)))
    for at in range(outside.many_classes):
        outside.holds[at] = lone_atom(("left", outside.called, at))
    outside.called += 1


def is_true(outside, test, env):
    """What an open bool is, or what the call of an open test answers."""
    if test[0] == "var":
        return env[test[1]][1]
    ask_outside(outside, "test", test, env)
    outside.answered += 1
    return outside.answered <= len(outside.answers) and outside.answers[outside.answered - 1]


def work_add(outside, values):
    return ("num", mixed(values[0], values[1], 1))


def work_sub(outside, values):
    return ("num", mixed(values[0], values[1], -1))


def work_mul(outside, values):
    one, other = values
    return ("num", mixed((0, ()), one, other[0]) if not other[1] else mixed((0, ()), other, one[0]))


def work_get(outside, values):
    return ("num", outside.holds[values[0]])


def work_put(outside, values):
    outside.holds[values[0]] = values[1]
    return ("unit", None)


def work_tell(outside, values):
    outside.points.append(("tell", values[0]))
    return ("unit", None)


def work_ask(outside, values):
    outside.points.append(("ask", held(outside)))
    outside.asked += 1
    return ("num", lone_atom(("input", outside.asked - 1)))


def work_ref(outside, values):
    outside.holds.append(values[0])
    return ("cell", len(outside.holds) - 1)


WORKS = {
    "add": work_add, "sub": work_sub, "mul": work_mul, "get": work_get, "put": work_put, "tell": work_tell,
    "ask": work_ask, "ref": work_ref,
}
