"""Changes of one program that are led over one another."""

from changedsame.basics import is_count
from changedsame.builds import build_of, middle
from changedsame.changeforms import CHANGE_PARTS, is_change_form
from changedsame.deciding import end_of
from changedsame.errors import InvalidChange, InvalidProgram, NotAccepted
from changedsame.infer import is_accepted
from changedsame.moves import Move
from changedsame.renames import declared
from changedsame.spots import found_at, with_expr_at
from changedsame.trees import is_program
from changedsame.turning import cases_of
from changedsame.wholes import whole_of


def are_like_built(program, other):
    """Whether two programs are of like build."""
    if not is_program(program):
        raise InvalidProgram(program)
    if not is_program(other):
        raise InvalidProgram(other)
    return build_of(program) == build_of(other)


def middle_of(program, other):
    """The longest place outside of which two programs are the same, None if they are equal."""
    if not is_program(program):
        raise InvalidProgram(program)
    if not is_program(other):
        raise InvalidProgram(other)
    return middle(program, other)


def led(program, change, other):
    """The change that a change becomes behind another one of the same program; None if it is not led."""
    check_two(program, change, other)
    result = end_of(program, other)
    return None if result is None or end_of(program, change) is None else led_over(program, change, other, result)


def check_two(program, change, other):
    """Raises what is wrong with a program, or with two changes."""
    if not is_program(program):
        raise InvalidProgram(program)
    if not is_change_form(change):
        raise InvalidChange(change)
    if not is_change_form(other):
        raise InvalidChange(other)
    if not is_accepted(program):
        raise NotAccepted()


def led_over(program, change, other, result):
    """The same of two changes that are taken, the other one leading to the result."""
    way = Way(program, other, result)
    parts = []
    for kind, part in zip(CHANGE_PARTS[change[0]], change[1:]):
        told = way.led_part(change, kind, part)
        if told is None:
            return None
        parts.append(told)
    return (change[0],) + tuple(parts)


class Way:
    """From a program to what a change that is taken leads to: where places come to, and what becomes of names."""

    def __init__(self, program, change, result):
        self.ahead = program
        self.change = change
        self.after = result
        self.move = Move(program, change) if change[0] == "move" else None
        self.is_like = build_of(program) == build_of(result)
        self.middle = middle(program, result)

    def led_part(self, change, kind, part):
        """What a part of a change becomes; None if it is not led."""
        if kind == "place":
            return self.led_place(part)
        if kind == "module":
            return self.led_module(part)
        if kind in ("whole value", "whole sort", "whole con"):
            return self.led_whole(kind, part)
        if kind == "con":
            return self.led_con(change[1], part)
        if kind == "path":
            return tuple([step if is_count(step) else self.led_con(change[1], step) for step in part])
        return self.led_expr(change[1], part) if kind == "expr" else part

    def led_place(self, place):
        """Where a place comes to, None if the change touches it."""
        if self.move is not None:
            return self.move.behind(place)
        if self.is_like or self.middle is None or place[:len(self.middle)] != self.middle:
            return place
        return None

    def led_module(self, name):
        """The name of a module behind the change."""
        if self.move is not None or not self.is_like:
            return name
        return self.after[[module[1] for module in self.ahead].index(name)][1]

    def led_whole(self, kind, name):
        """The whole name of a value, a type or a constructor behind the change."""
        if self.move is not None:
            return self.move.new_wholes().get(("value", name), name) if kind == "whole value" else name
        if not self.is_like:
            return name
        sort = kind.partition(" ")[2]
        return declared(whole_of(self.after), sort)[declared(whole_of(self.ahead), sort).index(name)]

    def led_con(self, place, name):
        """The name of a constructor, written as at a place, behind the change, with or without a module as it was."""
        if "." in name:
            return self.led_whole("whole con", name)
        _, home, _, decls = self.ahead[place[0]]
        if name not in [con for decl in decls[:place[1]] for con, _ in cases_of(decl)]:
            return name
        return self.led_whole("whole con", f"{home}.{name}").partition(".")[2]

    def led_expr(self, place, expr):
        """What would stand at the led place if this expression had stood at the place; None if it is not led."""
        at = self.led_place(place)
        told = with_expr_at(self.ahead, place, expr)
        if at is None or not is_accepted(told):
            return None
        result = end_of(told, self.change)
        return None if result is None else found_at(result, at)
