"""Makings and patterns of one constructor whose argument is a tuple, and this tuple in another sequence."""

from changedsame.finding import is_value
from changedsame.senses import occurrences
from changedsame.spots import all_exprs, children, decl_exprs, decls_of, with_children, with_decl
from changedsame.spots import with_decl_exprs
from changedsame.wholes import whole_of


def uses_of_con(program, con):
    """A dict of the tuples (place, position there) of the uses of a constructor, in makings and patterns."""
    return {told[:2]: True for told in occurrences(program, whole_of(program)) if told[2] == "con" and told[4] == con}


def parts_of_con(program, con):
    """How many parts the written tuple has that is the argument of a constructor; None if there is no such one."""
    module, _, short = con.partition(".")
    for place, decl in decls_of(program):
        if program[place[0]][1] == module:
            for name, argument in cases_of(decl):
                if name == short:
                    return len(argument[1]) if argument is not None and argument[0] == "tuple" else None
    return None


def cases_of(decl):
    """The tuple of the tuples (name, argument) of the constructors that a declaration declares."""
    if decl[0] == "type":
        return decl[3]
    return (decl[1:],) if decl[0] == "exception" else ()


def in_order(parts, order):
    """The tuple of some parts in another sequence."""
    return tuple([parts[k] for k in order])


class Turn:
    """A change of the sequence of a constructor's parts, and the uses of this constructor in a program."""

    def __init__(self, program, con, order):
        self.base = program
        self.module, _, self.short = con.partition(".")
        self.order = order
        self.found = uses_of_con(program, con)

    def makings(self):
        """The list of the tuples (place, expression) of the makings."""
        told = all_exprs(self.base)
        return [(place, expr) for place, expr in told if expr[0] == "con" and (place, 0) in self.found]

    def barred(self):
        """The first place of a making without a tuple, or of a match or try that names a whole argument; else None."""
        for place, expr in all_exprs(self.base):
            if expr[0] == "con" and (place, 0) in self.found and expr[2][0] != "tuple":
                return place
            if expr[0] in ("match", "try"):
                arguments = [argument for rule in expr[2] for argument in con_arguments(rule[0])]
                at = [k for k, argument in enumerate(arguments) if argument is not None and argument[0] == "bind"]
                if [k for k in at if (place, k) in self.found]:
                    return place
        return None

    def unstill(self):
        """The list of the tuples (place, positions of the parts that are not still) of the makings that have such."""
        found = []
        for place, expr in self.makings():
            positions = [k for k, part in enumerate(expr[2][1]) if not is_value(part)]
            if positions:
                found.append((place, positions))
        return found

    def turned(self):
        """The program with the tuples turned, where all parts are still."""
        result = self.base
        for place, decl in decls_of(self.base):
            exprs = [self.turned_expr(place + steps, expr) for steps, expr in decl_exprs(decl)]
            told = with_decl_exprs(decl, exprs)
            if self.base[place[0]][1] == self.module:
                told = self.turned_decl(told)
            result = with_decl(result, place, told)
        return result

    def turned_decl(self, decl):
        """A declaration of the module with the constructor's argument turned, if it declares this."""
        if self.short not in [name for name, _ in cases_of(decl)]:
            return decl
        told = [self.turned_case(case) for case in cases_of(decl)]
        return decl[:3] + (tuple(told),) if decl[0] == "type" else ("exception",) + told[0]

    def turned_case(self, case):
        name, argument = case
        return (name, ("tuple", in_order(argument[1], self.order))) if name == self.short else case

    def turned_expr(self, place, expr):
        """An expression at a place with its makings and patterns turned."""
        told = with_children(expr, [self.turned_expr(place + (k,), part) for k, part in enumerate(children(expr))])
        if told[0] == "con" and (place, 0) in self.found:
            return ("con", told[1], ("tuple", in_order(told[2][1], self.order)))
        if told[0] not in ("match", "try"):
            return told
        at = 0
        rules = []
        for pattern, body in told[2]:
            rules.append((self.turned_pattern(place, at, pattern), body))
            at += len(con_arguments(pattern))
        return told[:2] + (tuple(rules),)

    def turned_pattern(self, place, at, pattern):
        """A pattern with what it has of the constructor turned; its own constructors are counted from a number on."""
        if pattern[0] == "tuple":
            return ("tuple", tuple(self.turned_patterns(place, at, pattern[1])))
        if pattern[0] != "con" or pattern[2] is None:
            return pattern
        inner = self.turned_pattern(place, at + 1, pattern[2])
        if (place, at) in self.found and inner[0] == "tuple":
            inner = ("tuple", in_order(inner[1], self.order))
        return ("con", pattern[1], inner)

    def turned_patterns(self, place, at, patterns):
        told = []
        for pattern in patterns:
            told.append(self.turned_pattern(place, at, pattern))
            at += len(con_arguments(pattern))
        return told


def con_arguments(pattern):
    """The list of the arguments, or None, of the constructors in a pattern, from left to right, outer ones first."""
    if pattern[0] == "tuple":
        return [argument for part in pattern[1] for argument in con_arguments(part)]
    if pattern[0] != "con":
        return []
    return [pattern[2]] + ([] if pattern[2] is None else con_arguments(pattern[2]))


def names_in(value):
    """A dict of all strings that stand in a tree, of those with a dot what stands behind it, too."""
    found = {}
    work = [value]
    while work:
        node = work.pop()
        if isinstance(node, str):
            found[node] = True
            found[node.partition(".")[2]] = True
        elif isinstance(node, tuple):
            work.extend(node)
    return found
