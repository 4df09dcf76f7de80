"""Reading declarations, modules and programs."""

from changedsame.readexprs import read_expr, read_functions
from changedsame.readtypes import read_written

MOST_MODULES = 6
MOST_DECLS = 20
MOST_SHOWN = 40
MOST_CASES = 6
MOST_PARAMETERS = 3
DECL_WORDS = ("type", "exception", "let", "rec", "do")


def read_program(cursor):
    """PROGRAM: one to six modules."""
    modules = [read_module(cursor)]
    while len(modules) < MOST_MODULES and cursor.word() == "module":
        modules.append(read_module(cursor))
    return tuple(modules)


def read_module(cursor):
    begin = cursor.spot
    cursor.want("module")
    name = cursor.take_big()
    shows = read_shows(cursor) if cursor.takes("show") else None
    cursor.want("=")
    cursor.heads.append((begin, cursor.spot))
    decls = []
    marks = []
    while len(decls) < MOST_DECLS and cursor.word() in DECL_WORDS:
        begin = cursor.spot
        decls.append(read_decl(cursor))
        marks.append((begin, cursor.spot))
    cursor.decl_marks.append(marks)
    cursor.want("end")
    return ("module", name, shows, tuple(decls))


def read_shows(cursor):
    """What stands behind "show": a pair of brackets, or names with commas between."""
    if cursor.takes("("):
        cursor.want(")")
        return ()
    shown = [read_shown(cursor, [])]
    while len(shown) < MOST_SHOWN and cursor.takes(","):
        shown.append(read_shown(cursor, shown))
    return tuple(shown)


def read_shown(cursor, barred):
    if cursor.has_big() and cursor.word() not in barred:
        return cursor.take()
    return cursor.take_name(barred)


def read_decl(cursor):
    if cursor.takes("type"):
        return read_data(cursor)
    if cursor.takes("exception"):
        con, written = read_case(cursor)
        return ("exception", con, written)
    if cursor.takes("let"):
        name = cursor.take_name(())
        cursor.want("=")
        return ("let", name, read_expr(cursor))
    if cursor.takes("rec"):
        return ("rec", read_functions(cursor))
    cursor.want("do")
    return ("do", read_expr(cursor))


def read_data(cursor):
    """The declaration of a type, behind its first word."""
    name = cursor.take_name(())
    parameters = read_parameters(cursor) if cursor.takes("(") else ()
    cursor.want("=")
    cases = [read_case(cursor)]
    while len(cases) < MOST_CASES and cursor.takes("|"):
        cases.append(read_case(cursor))
    return ("type", name, parameters, tuple(cases))


def read_parameters(cursor):
    """PARAMS behind the opening bracket: one to three unlike names."""
    names = [read_parameter(cursor, [])]
    while len(names) < MOST_PARAMETERS and cursor.takes(","):
        names.append(read_parameter(cursor, names))
    cursor.want(")")
    return tuple(names)


def read_parameter(cursor, barred):
    cursor.want("'")
    return cursor.take_name(barred)


def read_case(cursor):
    """A constructor as it is declared: its name, its argument's type or None."""
    con = cursor.take_big()
    return (con, read_written(cursor) if cursor.takes("of") else None)
