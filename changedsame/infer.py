"""The types of a program's values, and whether it is accepted."""

from changedsame.errors import Clash, InvalidProgram, InvalidWhole, MissingError, NotAccepted, Twice, WrongArgument
from changedsame.finding import Finder, Unlike, find, is_value, member_entries
from changedsame.trees import is_program
from changedsame.wholes import Whole, resolved_expr, whole_of


def schemes(whole):
    """The list of the tuples (global, scheme), in the sequence in which they are declared."""
    if not isinstance(whole, Whole):
        raise InvalidWhole(whole)
    finder, position = found(whole)
    if position is not None:
        raise Clash(position)
    return [(name, finder.scheme(finder.tops[name])) for name in whole.value_names()]


def first_clash(whole):
    """The position of the first declaration that clashes, None if none does."""
    if not isinstance(whole, Whole):
        raise InvalidWhole(whole)
    return found(whole)[1]


def is_accepted(program):
    """Whether any value is a program that is resolved and in which no declaration clashes."""
    if not is_program(program):
        return False
    try:
        whole = whole_of(program)
    except (MissingError, Twice, WrongArgument):
        return False
    return first_clash(whole) is None


def check_accepted(program):
    """Raises the error of what is no program, or none that is accepted."""
    if not is_program(program):
        raise InvalidProgram(program)
    if not is_accepted(program):
        raise NotAccepted()


def scheme_of(whole, expr):
    """The scheme that a further name of this expression would have, None if it has no type."""
    told = resolved_expr(whole, expr)
    finder, position = found(whole)
    if position is not None:
        raise Clash(position)
    try:
        entry = finder.entry(find(finder, told, {}), is_value(told), {})
    except Unlike:
        return None
    return finder.scheme(entry)


def found(whole):
    """What is found of a program's types, and the position of the first declaration that clashes, or None."""
    finder = Finder(whole.cons())
    for position, decl in enumerate(whole.decls()):
        try:
            add_decl(finder, decl)
        except Unlike:
            return (finder, position)
    return (finder, None)


def add_decl(finder, decl):
    """Changes the finder: it knows the values of a further declaration."""
    word = decl[0]
    if word == "let":
        loose = find(finder, decl[2], {})
        finder.tops[decl[1]] = finder.entry(loose, is_value(decl[2]), {})
    elif word == "rec":
        entries = member_entries(finder, decl[1], {})
        for member, entry in zip(decl[1], entries):
            finder.tops[member[1]] = entry
    elif word == "do":
        find(finder, decl[1], {})
