"""Changes of a part at a place: whether they fit, where they clash, and what shall stand there."""

from changedsame.basics import is_short_name, word_of
from changedsame.sights import sights
from changedsame.spots import children, decl_exprs, decls_of, found_at, inner_at, outermost, with_children, with_decl
from changedsame.spots import with_decl_exprs, with_inner_at
from changedsame.trees import is_expr
from changedsame.verdicts import fault_of

UNIT = ("unit",)

MANY_PARTS = {"replace": 3, "swap": 2, "inline": 2, "extract": 4, "share": 4, "drop": 2}


def is_part_change(program, value):
    """Whether any value is a change of a part that fits."""
    word = word_of(value)
    if word not in MANY_PARTS or len(value) != MANY_PARTS[word]:
        return False
    part = found_at(program, value[1])
    if part is None:
        return False
    if word == "replace":
        return is_expr(value[2]) and has_no_new_fault(program, value[1], value[2])
    if word in ("extract", "share"):
        return found_at(program, value[2]) is not None and is_inside(value[2], value[1]) and is_short_name(value[3])
    if word == "inline":
        return part[0] == "let"
    if word == "drop":
        return part[0] in ("let", "seq")
    return part[0] in ("let", "seq") and part[-1][0] == part[0]


def has_no_new_fault(program, place, expr):
    """Whether no name in an expression is at fault at a place; faults elsewhere are no matter of the change."""
    return fault_of(alone_at(program, place, expr)) == fault_of(alone_at(program, place, UNIT))


def alone_at(program, place, expr):
    """The program with an expression at a place, and unit in the place of all expressions that are not around it."""
    begin = outermost(program, place)
    for at, decl in decls_of(program):
        exprs = []
        for steps, inner in decl_exprs(decl):
            exprs.append(alone_within(inner, place[len(begin):], expr) if at + steps == begin else UNIT)
        program = with_decl(program, at, with_decl_exprs(decl, exprs))
    return program


def alone_within(holder, steps, expr):
    """The same of an expression, and of where some steps lead from it."""
    if not steps:
        return expr
    inside = children(holder)
    parts = [UNIT] * len(inside)
    parts[steps[0]] = alone_within(inside[steps[0]], steps[1:], expr)
    return with_children(holder, parts)


def is_inside(place, other):
    """Whether a place is within what stands at another one, and not that itself."""
    return len(place) > len(other) and place[:len(other)] == other


def new_part_of(program, change):
    """("part", the new part) of a change that fits, or ("clash", the first place at which it clashes)."""
    word, place = change[:2]
    if word == "replace":
        return ("part", change[2])
    views = Views(program, place)
    action = CLASHES[word]
    found = action(views, change)
    if found:
        return ("clash", min(found))
    action = NEW_PARTS[word]
    return ("part", action(views, change))


class Views:
    """The part at a place, the binders around each place within, and the uses of names: (place, name, meaning)."""

    def __init__(self, program, place):
        self.place = place
        self.part = found_at(program, place)
        self.around = {}
        self.found = []
        for at, expr, env in sights(program):
            if at[:len(place)] == place:
                self.around[at] = env
                if expr[0] == "var":
                    self.found.append((at, found_at(program, at)[1], env.get(expr[1], expr[1])))

    def inner(self, place):
        """What stands at a place within the part."""
        return inner_at(self.part, place[len(self.place):])

    def uses(self):
        """The list of the places of the uses of the first name that the part binds."""
        return [at for at, _, told in self.found if told == ("local", self.place, 0)]

    def free_uses(self, place):
        """The list of the uses of names that are free in what stands at a place."""
        return [use for use in self.found if use[0][:len(place)] == place and not is_bound_in(use[2], place)]

    def named(self, name, place):
        """The list of the places of the uses of a name that is free in what stands at a place."""
        return [at for at, told, _ in self.free_uses(place) if told == name]


def uses_of_first(program, place):
    """The list of the places of the uses of the first name that the part at a place binds."""
    return Views(program, place).uses()


def is_bound_in(binder, place):
    """Whether what a name means is a binder of what stands at a place, or within it."""
    return isinstance(binder, tuple) and binder[1][:len(place)] == place


def clashes_of_swap(views, change):
    part, place = views.part, views.place
    if part[0] == "seq":
        return []
    found = views.named(part[1], place + (1, 0)) + views.named(part[3][1], place + (0,))
    return found + (views.named(part[1], place + (1, 1)) if part[1] == part[3][1] else [])


def clashes_of_inline(views, change):
    place = views.place
    free = [(name, binder) for _, name, binder in views.free_uses(place + (0,)) if name != views.part[1]]
    found = []
    for at in views.uses():
        around = views.around[at]
        if [name for name, binder in free if around.get(name, binder) != binder]:
            found.append(at)
    return found


def clashes_of_drop(views, change):
    return views.uses()


def clashes_of_naming(views, change):
    """Those of extract and share."""
    _, place, inner, name = change
    held = [at for at, _, binder in views.free_uses(inner) if is_bound_in(binder, place)]
    hidden = [at for at in places_of_name(views, change) if is_bound_in(views.around[at].get(name, None), place)]
    return held + views.named(name, place) + hidden


def places_of_name(views, change):
    """The list of the places at which the name comes to stand."""
    word, _, inner, _ = change
    if word == "extract":
        return [inner]
    wanted = free_binders(views, inner)
    return [at for at in views.around if views.inner(at) == views.inner(inner) and free_binders(views, at) == wanted]


def free_binders(views, place):
    """The list of the binders of the names that are free in what stands at a place, as they come there."""
    return [(name, binder) for _, name, binder in views.free_uses(place)]


def swapped(views, change):
    part = views.part
    if part[0] == "seq":
        return ("seq", part[2][1], ("seq", part[1], part[2][2]))
    inner = part[3]
    return ("let", inner[1], inner[2], ("let", part[1], part[2], inner[3]))


def inlined(views, change):
    part = views.part
    for at in views.uses():
        part = with_inner_at(part, at[len(views.place):], views.part[2])
    return part[3]


def dropped(views, change):
    return views.part[-1]


def named_part(views, change):
    """The new part of extract and share."""
    part = views.part
    for at in places_of_name(views, change):
        part = with_inner_at(part, at[len(views.place):], ("var", change[3]))
    return ("let", change[3], views.inner(change[2]), part)


CLASHES = {
    "swap": clashes_of_swap, "inline": clashes_of_inline, "drop": clashes_of_drop, "extract": clashes_of_naming,
    "share": clashes_of_naming,
}

NEW_PARTS = {"swap": swapped, "inline": inlined, "drop": dropped, "extract": named_part, "share": named_part}
