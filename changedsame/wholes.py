"""Programs in which each name is found: whole names, labels, and what modules declare."""

from changedsame.errors import InvalidConstructor, InvalidExpr, InvalidProgram, InvalidWhole
from changedsame.scopes import Scope
from changedsame.trees import is_expr, is_program
from changedsame.wholedecls import read_book
from changedsame.wholeforms import whole_expr


class Whole:
    """A resolved program: made by resolved alone, and never changed."""

    def __init__(self, book):
        self.told = list(book.told)
        self.value_list = list(book.value_list)
        self.makers = list(book.makers)
        self.homes = {name: book.scope.homes[name] for name in book.scope.homes}
        self.labels = book.scope.label

    def decls(self):
        """The list of the declarations of all modules, with whole names."""
        return list(self.told)

    def value_names(self):
        """The list of the whole names of all values, in the sequence in which they are declared."""
        return list(self.value_list)

    def cons(self):
        """The list of the tuples (whole name, type, parameters, argument) of all constructors."""
        return list(self.makers)

    @property
    def many_labels(self):
        """How many functions there are."""
        return self.labels

    def __eq__(self, other):
        return isinstance(other, Whole) and self.told == other.told


def resolved(program):
    """The Whole of a program; raises its first fault."""
    if not is_program(program):
        raise InvalidProgram(program)
    return whole_of(program)


def whole_of(program):
    """The same of what is known to be a program."""
    return Whole(read_book(program))


def resolved_expr(whole, expr):
    """An expression behind all modules, with whole names and further labels; raises its first fault."""
    if not isinstance(whole, Whole):
        raise InvalidWhole(whole)
    if not is_expr(expr):
        raise InvalidExpr(expr)
    return whole_expr(Scope(whole.homes, None, whole.labels), expr, ())


def siblings(whole, con):
    """The list of the whole names of the constructors of the type of one, of an exception itself alone."""
    if not isinstance(whole, Whole):
        raise InvalidWhole(whole)
    sorts = {maker[0]: maker[1] for maker in whole.makers}
    if not isinstance(con, str) or con not in sorts:
        raise InvalidConstructor(con)
    if sorts[con] == "exn":
        return [con]
    return [maker[0] for maker in whole.makers if maker[1] == sorts[con]]
