"""Linear forms of unknown numbers, taken modulo 4294967296."""

from changedsame.basics import is_count, is_number, is_short_name, word_of
from changedsame.errors import InvalidAtom, InvalidForm, InvalidNumber, InvalidValues
from changedsame.stores import ROUND, wrap

# How many counts each kind of atom has behind its word; a name has its name instead.
ATOM_COUNTS = {"start": 1, "left": 2, "result": 1, "input": 1}


def is_atom(value):
    """Whether any value is an atom."""
    word = word_of(value)
    if word == "name":
        return len(value) == 2 and is_short_name(value[1])
    if word not in ATOM_COUNTS or len(value) != 1 + ATOM_COUNTS[word]:
        return False
    return all([is_count(part) for part in value[1:]])


def is_member(value):
    """Whether any value is an atom with how often it is there."""
    if not isinstance(value, tuple) or len(value) != 2:
        return False
    return is_atom(value[0]) and is_count(value[1]) and 1 <= value[1] < ROUND


def is_form(value):
    """Whether any value is a form."""
    if not isinstance(value, tuple) or len(value) != 2:
        return False
    number, members = value
    if not is_count(number) or number >= ROUND or not isinstance(members, tuple):
        return False
    if not all([is_member(member) for member in members]):
        return False
    atoms = [member[0] for member in members]
    return all([one < other for one, other in zip(atoms, atoms[1:])])


def number_form(number):
    """The form of a number alone."""
    if not is_number(number):
        raise InvalidNumber(number)
    return lone_number(number)


def lone_number(number):
    """The same of what is known to be a number."""
    return (number % ROUND, ())


def atom_form(atom):
    """The form of an atom alone."""
    if not is_atom(atom):
        raise InvalidAtom(atom)
    return lone_atom(atom)


def lone_atom(atom):
    """The same of what is known to be an atom."""
    return (0, ((atom, 1),))


def form_sum(form, other):
    """Two forms added."""
    check_forms(form, other)
    return mixed(form, other, 1)


def form_less(form, other):
    """The first form less the other one."""
    check_forms(form, other)
    return mixed(form, other, -1)


def form_times(form, number):
    """A form taken so often."""
    if not is_form(form):
        raise InvalidForm(form)
    if not is_number(number):
        raise InvalidNumber(number)
    return mixed((0, ()), form, number)


def check_forms(form, other):
    """Raises the error of what is no form."""
    if not is_form(form):
        raise InvalidForm(form)
    if not is_form(other):
        raise InvalidForm(other)


def mixed(form, other, often):
    """A form with another one added so often."""
    table = {atom: many for atom, many in form[1]}
    for atom, many in other[1]:
        table[atom] = table.get(atom, 0) + many * often
    members = [(atom, table[atom] % ROUND) for atom in sorted(table)]
    return ((form[0] + other[0] * often) % ROUND, tuple([member for member in members if member[1]]))


def form_worth(form, values):
    """What a form is worth if atoms stand for the told numbers, other atoms for 0."""
    if not is_form(form):
        raise InvalidForm(form)
    if not are_values(values):
        raise InvalidValues(values)
    return worth(form, values)


def worth(form, values):
    """The same of what is known to be a form and values."""
    table = {atom: number for atom, number in values}
    return wrap(form[0] + sum([many * table.get(atom, 0) for atom, many in form[1]]))


def are_values(value):
    """Whether any value tells the numbers that some atoms stand for."""
    if not isinstance(value, (list, tuple)):
        return False
    seen = {}
    for told in value:
        if not isinstance(told, tuple) or len(told) != 2:
            return False
        if not is_atom(told[0]) or not is_number(told[1]) or told[0] in seen:
            return False
        seen[told[0]] = True
    return True


def parting_values(form, other):
    """Values by which two forms are worth unlike numbers, None if they are equal."""
    check_forms(form, other)
    return values_apart(form, other)


def values_apart(form, other):
    """The same of what are known to be forms."""
    number, members = mixed(form, other, -1)
    if number:
        return []
    return [(members[0][0], 1)] if members else None
