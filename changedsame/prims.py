"""What the prims do in a run: each takes the values of its parts and tells the next step."""

from changedsame.stores import new_cell, wrap

MOST_PLACES = 64
UNIT = ("unit",)


def raised(running, value):
    """Raises an exception value: an event, and the search for a try."""
    running.events.append(("raise", value[1]))
    return ("raise", value)


def raised_plain(running, name):
    """Raises an exception of the base."""
    return raised(running, ("con", name, None))


def given_int(number):
    return ("give", ("int", wrap(number)))


def given_bool(truth):
    return ("give", ("bool", truth))


def do_add(running, values):
    return given_int(values[0][1] + values[1][1])


def do_sub(running, values):
    return given_int(values[0][1] - values[1][1])


def do_mul(running, values):
    return given_int(values[0][1] * values[1][1])


def do_div(running, values):
    below = values[1][1]
    return raised_plain(running, "DivZero") if below == 0 else given_int(values[0][1] // below)


def do_mod(running, values):
    below = values[1][1]
    return raised_plain(running, "DivZero") if below == 0 else given_int(values[0][1] % below)


def do_eq(running, values):
    return given_bool(values[0][1] == values[1][1])


def do_lt(running, values):
    return given_bool(values[0][1] < values[1][1])


def do_le(running, values):
    return given_bool(values[0][1] <= values[1][1])


def do_not(running, values):
    return given_bool(not values[0][1])


def do_ref(running, values):
    return ("give", ("cell", new_cell(running.store, "ref", values)))


def do_get(running, values):
    return ("give", running.store.held[values[0][1]][0])


def do_put(running, values):
    running.store.held[values[0][1]][0] = values[1]
    return ("give", UNIT)


def do_same(running, values):
    return given_bool(values[0][1] == values[1][1])


def do_array(running, values):
    many = values[0][1]
    if not 0 <= many <= MOST_PLACES:
        return raised_plain(running, "Bounds")
    return ("give", ("cell", new_cell(running.store, "array", [values[1]] * many)))


def do_at(running, values):
    fields = running.store.held[values[0][1]]
    spot = values[1][1]
    if not 0 <= spot < len(fields):
        return raised_plain(running, "Bounds")
    return ("give", fields[spot])


def do_place(running, values):
    fields = running.store.held[values[0][1]]
    spot = values[1][1]
    if not 0 <= spot < len(fields):
        return raised_plain(running, "Bounds")
    fields[spot] = values[2]
    return ("give", UNIT)


def do_size(running, values):
    return given_int(len(running.store.held[values[0][1]]))


def do_tell(running, values):
    running.events.append(("tell", values[0][1]))
    return ("give", UNIT)


def do_ask(running, values):
    if running.asked == len(running.inputs):
        return raised_plain(running, "NoMore")
    number = running.inputs[running.asked]
    running.asked += 1
    running.events.append(("ask", number))
    return given_int(number)


PRIM_WORKS = {
    "add": do_add, "sub": do_sub, "mul": do_mul, "div": do_div, "mod": do_mod, "eq": do_eq, "lt": do_lt,
    "le": do_le, "not": do_not, "ref": do_ref, "get": do_get, "put": do_put, "same": do_same, "array": do_array,
    "at": do_at, "place": do_place, "size": do_size, "tell": do_tell, "ask": do_ask,
}
