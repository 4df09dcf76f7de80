"""Changes of names, of locals and of whatever modules declare."""

from changedsame.basics import is_short_big, is_short_name, word_of
from changedsame.bindings import is_binder
from changedsame.errors import InvalidChange
from changedsame.rewriting import rewritten
from changedsame.senses import occurrences, senses
from changedsame.trees import is_program
from changedsame.verdicts import verdict, with_wholes
from changedsame.wholes import resolved

# The kind of what each change of a declared name renames.
KINDS = {"rename value": "value", "rename type": "sort", "rename constructor": "con"}


def meanings(program):
    """The list of the tuples (place, meaning) of a program, places rising."""
    return [(place, meaning) for place, _, meaning in senses(program, resolved(program))]


def is_rename(program, value):
    """Whether any value is a change of names that fits the program."""
    return does_fit(program, resolved(program), value)


def does_fit(program, whole, value):
    """The same with the Whole of the program."""
    word = word_of(value)
    if word == "rename local":
        return len(value) == 4 and is_binder(program, whole, ("local",) + value[1:3]) and is_short_name(value[3])
    if word == "rename module" and len(value) == 3:
        return value[1] in [module[1] for module in program] and is_short_big(value[2])
    if word not in KINDS or len(value) != 3:
        return False
    is_new = is_short_big(value[2]) if word == "rename constructor" else is_short_name(value[2])
    return is_new and value[1] in declared(whole, KINDS[word])


def declared(whole, kind):
    """The list of the whole names of the values, types or constructors that modules declare."""
    if kind == "value":
        return whole.value_names()
    if kind == "sort":
        return [decl[1] for decl in whole.decls() if decl[0] == "type"]
    return [maker[0] for maker in whole.cons() if "." in maker[0]]


def checked(program, change):
    """The Whole of a program; raises what is wrong with it, or with the change."""
    whole = resolved(program)
    if not does_fit(program, whole, change):
        raise InvalidChange(change)
    return whole


def renamed_plain(program, change):
    """The plain result of a change of names."""
    return plain_result(program, checked(program, change), change)


def plain_result(program, whole, change):
    """The same of a change that is known to fit."""
    word, new = change[0], change[-1]
    told = occurrences(program, whole)
    if word == "rename local":
        binder = ("local", change[1], change[2])
        used = {(name[0], name[1]): new for name in told if name[4] == binder}
        return rewritten(program, used, {(change[1], change[2]): new})
    table = wholes_table(whole, change)
    used = {}
    for place, k, kind, name, meaning in told:
        if (kind, meaning) in table:
            used[(place, k)] = table[(kind, meaning)] if "." in name else table[(kind, meaning)].partition(".")[2]
    result = rewritten(program, used, {})
    if word == "rename module":
        return tuple([(module[0], new if module[1] == change[1] else module[1]) + module[2:] for module in result])
    home, _, old = change[1].partition(".")
    return tuple([with_name(module, KINDS[word], old, new) if module[1] == home else module for module in result])


def wholes_table(whole, change):
    """A dict from (kind, whole name) to the new whole name, of what a change of declared names renames."""
    word, old, new = change
    if word in KINDS:
        return {(KINDS[word], old): old.partition(".")[0] + "." + new}
    table = {}
    for kind in ("value", "sort", "con"):
        for name in declared(whole, kind):
            home, _, short = name.partition(".")
            if home == old:
                table[(kind, name)] = f"{new}.{short}"
    return table


def with_name(module, kind, old, new):
    """A module with another name of one thing that it declares, there and in its shows."""
    _, name, shows, decls = module
    if shows is not None and kind != "sort":
        shows = tuple([new if shown == old else shown for shown in shows])
    return ("module", name, shows, tuple([with_declared(decl, kind, old, new) for decl in decls]))


def with_declared(decl, kind, old, new):
    """A declaration with another name of one thing, if it declares this."""
    word = decl[0]
    if kind == "value" and word == "let":
        return (word, new if decl[1] == old else decl[1], decl[2])
    if kind == "value" and word == "rec":
        return (word, tuple([(new if member[0] == old else member[0],) + member[1:] for member in decl[1]]))
    if kind == "sort" and word == "type":
        return (word, new if decl[1] == old else decl[1]) + decl[2:]
    if kind == "con" and word == "exception":
        return (word, new if decl[1] == old else decl[1]) + decl[2:]
    if kind == "con" and word == "type":
        cases = [(new if case[0] == old else case[0], case[1]) for case in decl[3]]
        return decl[:3] + (tuple(cases),)
    return decl


def changed_wholes(program, change):
    """The sorted list of the tuples (old whole name, new whole name) of those that become others."""
    whole = checked(program, change)
    if change[0] == "rename local":
        return []
    table = wholes_table(whole, change)
    pairs = {kind_and_name[1]: table[kind_and_name] for kind_and_name in table}
    return sorted([(old, pairs[old]) for old in pairs if old != pairs[old]])


def decided_rename(program, change):
    """("taken", the plain result), or ("refused", the reason)."""
    whole = checked(program, change)
    result = plain_result(program, whole, change)
    if not is_program(result):
        return ("refused", ("fault", "twice", change[-1]))
    table = {} if change[0] == "rename local" else wholes_table(whole, change)
    return verdict(result, [with_wholes(sense, table) for sense in senses(program, whole)])
