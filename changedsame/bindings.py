"""Binders, uses, what is seen at a place, programs that are alike but for names, and types at places."""

from changedsame.basics import is_count, word_of
from changedsame.errors import InvalidBinder, InvalidPlace, InvalidUse, NotAccepted
from changedsame.finding import UNIT, is_value
from changedsame.infer import found
from changedsame.looses import leaves_of, put_for_leaves
from changedsame.sights import decl_names, names_bound, sights_of
from changedsame.skeletons import skeleton
from changedsame.spots import all_exprs, decls_of, found_at, is_counts
from changedsame.wholes import resolved


def binders(program):
    """The sorted list of all binders of a program."""
    whole = resolved(program)
    told = [("value", k) for k in range(len(whole.value_names()))]
    for place, decl in decls_of(program):
        told.extend([("local", place, k) for k in range(len(decl_names(decl)))])
    for place, expr in all_exprs(program):
        told.extend([("local", place, k) for k in range(len(names_bound(expr)))])
    return sorted(told)


def binder_of(program, place):
    """The binder of the use at a place."""
    whole = resolved(program)
    _, expr, env = sight_at(program, whole, place)
    if expr[0] != "var":
        raise InvalidUse(place)
    return binder_in(whole.value_names(), expr[1], env)


def sight_at(program, whole, place):
    """The sight at a place; raises the error of what is no place."""
    if found_at(program, place) is None:
        raise InvalidPlace(place)
    return [sight for sight in sights_of(program, whole) if sight[0] == place][0]


def binder_in(values, name, env):
    """The binder of a whole name, or of a local one, with the binders around."""
    return env[name] if name in env else ("value", values.index(name))


def uses(program, binder):
    """The sorted list of the uses of a binder."""
    whole = resolved(program)
    check_binder(program, whole, binder)
    values = whole.value_names()
    found_uses = []
    for place, expr, env in sights_of(program, whole):
        if expr[0] == "var" and binder_in(values, expr[1], env) == binder:
            found_uses.append(place)
    return found_uses


def name_of(program, binder):
    """The name that a binder binds, without a dot."""
    whole = resolved(program)
    check_binder(program, whole, binder)
    if binder[0] == "value":
        return whole.value_names()[binder[1]].partition(".")[2]
    return names_at(program, binder[1])[binder[2]]


def check_binder(program, whole, value):
    """Raises the error of what is no binder of a resolved program."""
    if not is_binder(program, whole, value):
        raise InvalidBinder(value)


def is_binder(program, whole, value):
    """Whether any value is a binder of a resolved program."""
    word = word_of(value)
    if word == "value":
        return len(value) == 2 and is_count(value[1]) and value[1] < len(whole.value_names())
    if word != "local" or len(value) != 3 or not is_counts(value[1]) or not is_count(value[2]):
        return False
    return value[2] < len(names_at(program, value[1]))


def names_at(program, place):
    """The list of the names that are bound by what stands at a place, or by the declaration there."""
    expr = found_at(program, place)
    if expr is not None:
        return names_bound(expr)
    for at, decl in decls_of(program):
        if at == place:
            return decl_names(decl)
    return []


def seen_at(program, place):
    """The sorted list of the tuples (name, binder) of all names that are seen at a place."""
    whole = resolved(program)
    env = sight_at(program, whole, place)[2]
    values = whole.value_names()
    seen = {}
    for module in program[:place[0]]:
        home = whole.homes[module[1]]
        for name in home.vals:
            if home.does_show(name):
                seen[home.whole(name)] = ("value", values.index(home.whole(name)))
    module = program[place[0]]
    home = whole.homes[module[1]]
    for name in names_ahead(module[3], place[1]):
        seen[name] = ("value", values.index(home.whole(name)))
    seen.update(env)
    return sorted([(name, seen[name]) for name in seen])


def names_ahead(decls, at):
    """The list of the values that the declarations ahead of a position declare, or a rec there itself."""
    names = []
    for k, decl in enumerate(decls[:at + 1]):
        if decl[0] == "rec":
            names.extend([member[0] for member in decl[1]])
        elif decl[0] == "let" and k < at:
            names.append(decl[1])
    return names


def are_alike_but_names(program, other):
    """Whether two programs are alike but for names."""
    whole = resolved(program)
    twin = resolved(other)
    return skeleton(program, whole) == skeleton(other, twin)


def type_at(program, place):
    """The type at a place of a program."""
    whole = resolved(program)
    if found_at(program, place) is None:
        raise InvalidPlace(place)
    finder, position = found(whole)
    if position is not None:
        raise NotAccepted()
    return types_found(program, finder, [place])[0]


def types_found(program, finder, wanted):
    """The list of the types at some places, where the types of the program are found."""
    numbers = {at[0]: k for k, at in enumerate(all_exprs(program))}
    around = finder.loose_around({})
    types = []
    for place in wanted:
        decl = program[place[0]][3][place[1]]
        is_general = decl[0] == "rec" or (decl[0] == "let" and is_value(decl[2]))
        types.append(plain_type(finder.solver.known(finder.found[numbers[place]]), is_general, around))
    return types


def plain_type(told, is_general, around):
    """A type that was found, with what is fixed by nothing as unit, or numbered anew where it may be anything."""
    table = {}
    many = 0
    for number in leaves_of(told, "unknown"):
        if is_general and number not in around:
            table[number] = ("unknown", many)
            many += 1
        else:
            table[number] = UNIT
    return put_for_leaves(told, "unknown", table)
