"""What is a name, an expression, a pattern, a type, a program, and how large a program is."""

from changedsame.basics import is_short_big, is_short_name
from changedsame.errors import InvalidProgram
from changedsame.sizes import is_tree_of, size_of


def is_name(value):
    """Whether any value is a name."""
    return is_short_name(value)


def is_big(value):
    """Whether any value is a big name."""
    return is_short_big(value)


def is_expr(value):
    """Whether any value is an expression within the limits."""
    return is_tree_of("expr", value)


def is_pattern(value):
    """Whether any value is a pattern within the limits."""
    return is_tree_of("root", value)


def is_type(value):
    """Whether any value is a written type within the limits."""
    return is_tree_of("written", value)


def is_program(value):
    """Whether any value is a program within the limits."""
    return is_tree_of("program", value)


def parts_of(program):
    """The number of a program's parts."""
    if not is_program(program):
        raise InvalidProgram(program)
    return size_of("program", program)[0]


def depth_of(program):
    """The depth of a program, 0 if it has no expression and no type."""
    if not is_program(program):
        raise InvalidProgram(program)
    return size_of("program", program)[1]
