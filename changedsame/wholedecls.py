"""Declarations with whole names, and the first fault of a program."""

from changedsame.basics import is_short_name
from changedsame.errors import NotBound, Twice
from changedsame.scopes import BASE_CONS, Home, Scope
from changedsame.wholeforms import whole_expr, whole_member, whole_written


class Book:
    """What is gathered while a program is read: whole declarations, names of values, constructors, modules.

    The scope tells in the end what an expression behind all modules sees.
    """

    def __init__(self):
        self.told = []
        self.value_list = []
        self.makers = list(BASE_CONS)
        self.scope = Scope({}, None, 0)


def read_book(program):
    """The book of a program; raises its first fault."""
    book = Book()
    scope = book.scope
    for _, name, shows, decls in program:
        if name in scope.homes:
            raise Twice(name)
        home = Home(name, shows)
        scope.here = home
        for decl in decls:
            action = DECLS[decl[0]]
            book.told.append(action(book, home, decl))
        check_shows(home)
        scope.homes[name] = home
        scope.here = None
    return book


def check_shows(home):
    """Raises the fault of the first thing that a module shows and does not declare."""
    shown = () if home.shows is None else home.shows
    for name in shown:
        if name not in (home.vals if is_short_name(name) else home.makers):
            raise NotBound(name)


def add_value(book, home, name):
    """Changes both: from here on the module has this value."""
    home.vals[name] = True
    book.value_list.append(home.whole(name))


def whole_data_decl(book, home, decl):
    _, name, parameters, cases = decl
    if name in home.sorts:
        raise Twice(name)
    home.sorts[name] = len(parameters)
    told = [whole_case(book, home, case, home.whole(name), parameters) for case in cases]
    return ("type", home.whole(name), parameters, tuple(told))


def whole_case(book, home, case, sort, parameters):
    """A constructor of a type, or an exception, with whole names; the module has it then."""
    con, written = case
    if con in home.makers:
        raise Twice(con)
    argument = None if written is None else whole_written(book.scope, written, parameters)
    home.makers[con] = written is not None
    book.makers.append((home.whole(con), sort, parameters, argument))
    return (home.whole(con), argument)


def whole_exception(book, home, decl):
    return ("exception",) + whole_case(book, home, decl[1:], "exn", ())


def whole_let_decl(book, home, decl):
    _, name, expr = decl
    if name in home.vals:
        raise Twice(name)
    told = whole_expr(book.scope, expr, ())
    add_value(book, home, name)
    return ("let", home.whole(name), told)


def whole_rec_decl(book, home, decl):
    for member in decl[1]:
        if member[0] in home.vals:
            raise Twice(member[0])
    for member in decl[1]:
        add_value(book, home, member[0])
    members = [whole_member(book.scope, member, home.whole(member[0]), ()) for member in decl[1]]
    return ("rec", tuple(members))


def whole_do(book, home, decl):
    return ("do", whole_expr(book.scope, decl[1], ()))


DECLS = {
    "type": whole_data_decl, "exception": whole_exception, "let": whole_let_decl, "rec": whole_rec_decl,
    "do": whole_do,
}
