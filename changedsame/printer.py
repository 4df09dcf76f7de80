"""The texts of trees."""

from changedsame.errors import InvalidExpr, InvalidPattern, InvalidProgram, InvalidType
from changedsame.trees import is_expr, is_pattern, is_program, is_type
from changedsame.writedecls import module_text
from changedsame.writeexprs import expr_items, pattern_items, written_items
from changedsame.writing import written_text


def program_text(program):
    """The text of a program: a line for each declaration."""
    if not is_program(program):
        raise InvalidProgram(program)
    return "".join([module_text(module) for module in program])


def expr_text(expr):
    """The text of an expression, on one line."""
    if not is_expr(expr):
        raise InvalidExpr(expr)
    return written_text(expr_items, expr)


def type_text(written):
    """The text of a type, on one line."""
    if not is_type(written):
        raise InvalidType(written)
    return written_text(written_items, written)


def pattern_text(pattern):
    """The text of a pattern, on one line."""
    if not is_pattern(pattern):
        raise InvalidPattern(pattern)
    return written_text(pattern_items, pattern)
