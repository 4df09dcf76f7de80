"""What the tests of the interface share: odd values, and a look at the errors of parameters."""

import copy

ODD = [
    None, True, False, 0, 1, -1, 10 ** 20, "", "x", "M.x", "Big", "1a", b"x", [], (), {}, [1], [()], ((),), ("int",),
    ("int", True), ("int", "1"), ("bool", 1), ("var", ["x"]), (["int"], 1), (("int", 1),), {"int": 1}, object(), int,
    set(), ("prim", [], ()), ("prim", "add", [("int", 1), ("int", 2)]), ["int", 1], ("unit", None), 3 + 4j,
]


def nested(word, many, inside=("unit",)):
    """An expression of so many forms of one word, one in the other, around another expression."""
    expr = inside
    for _ in range(many):
        expr = (word, expr)
    return expr


def bad_for(is_good):
    """The odd values that are none of some kind."""
    return [value for value in ODD if not is_good(value)]


class Told(Exception):
    """A call raised nothing, or something else than it ought to."""


def error_of(call, *args, **more):
    """The error that a call raises, None if it raises none."""
    try:
        call(*args, **more)
    except Exception as error:
        return error
    return None


def look_at_errors(case, call, good, errors):
    """Looks at the errors of the parameters of a function.

    good is a list of tuples (name, value) of all parameters; errors are tuples (name, error, bad values), in the
    sequence of the parameters. Each bad value is passed by position and by name, alone and with bad ones behind it.
    """
    call(*[value for _, value in good])
    call(**dict(good))
    names = [name for name, _ in good]
    firsts = {name: bad[0] for name, _, bad in errors}
    for name, kind, bad in errors:
        for value in bad:
            behind = {other: firsts[other] for other in names[names.index(name) + 1:] if other in firsts}
            for further in ({}, behind):
                args = {**dict(good), **further, name: value}
                for error in (error_of(call, *[args[other] for other in names]), error_of(call, **args)):
                    case.assertIs(type(error), kind, (call, name, value))
                    case.assertTrue(error.value is value or error.value == value, (call, name, value))


def keeps(case, call, *args):
    """What a call gives, which must neither change what it was passed nor give another thing the second time."""
    before = copy.deepcopy(args)
    first = call(*args)
    case.assertEqual(args, before)
    case.assertEqual(call(*args), first)
    if isinstance(first, list):
        first.append("more")
        case.assertNotEqual(call(*args), first)
        first.pop()
    return first
