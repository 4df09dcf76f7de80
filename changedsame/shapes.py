"""Changes of the shape of a data type: the parts of a constructor's argument in another sequence."""

from changedsame.basics import is_count, is_long_big, is_tuple_of, word_of
from changedsame.errors import InvalidChange, InvalidConstructor, InvalidProgram, NotAccepted
from changedsame.infer import is_accepted
from changedsame.places import check_size
from changedsame.spots import found_at, with_expr_at
from changedsame.trees import is_program
from changedsame.turning import Turn, names_in, parts_of_con

MOST_TURNED = 4


def is_shape_change(value):
    """Whether any value is a change of a shape, by its form."""
    return word_of(value) == "turn shape" and len(value) == 3 and is_long_big(value[1]) and is_order(value[2])


def is_order(value):
    """Whether any value is a new sequence of two to four parts."""
    if not is_tuple_of(value, 2, MOST_TURNED) or not all([is_count(part) for part in value]):
        return False
    return sorted(value) == list(range(len(value)))


def checked_turn(program, change):
    """The Turn of a change of a shape; raises what is wrong with it, or with the program."""
    if not is_program(program):
        raise InvalidProgram(program)
    if not is_shape_change(change):
        raise InvalidChange(change)
    if not is_accepted(program):
        raise NotAccepted()
    _, con, order = change
    if parts_of_con(program, con) != len(order):
        raise InvalidConstructor(con)
    return Turn(program, con, order)


def told_shape(program, change):
    """("taken", the plain result, the list of the steps), or ("refused", the reason)."""
    turn = checked_turn(program, change)
    place = turn.barred()
    if place is not None:
        return ("refused", ("clash", place))
    named, steps = with_named_parts(program, turn)
    result = Turn(named, change[1], change[2]).turned()
    check_size(result)
    return ("taken", result, steps + [("turned", (), change)])


def turned_done(program, change):
    """The plain result, None if the change is refused or some part of a making is not still."""
    turn = checked_turn(program, change)
    return None if turn.barred() is not None or turn.unstill() else turn.turned()


def with_named_parts(program, turn):
    """The tuple (program, steps): the parts of makings that are not still are named by lets, each by a step."""
    used = names_in(program)
    many = 0
    steps = []
    # Makings come by places, outer ones ahead; within a later one a let more stands ahead for each part that was named.
    moved = []
    for place, positions in turn.unstill():
        at = place_behind(place, moved)
        for position in positions:
            while f"q{many}" in used:
                many += 1
            making = found_at(program, at)
            part = making[2][1][position]
            named = ("let", f"q{many}", part, with_part(making, position, ("var", f"q{many}")))
            many += 1
            program = with_expr_at(program, at, named)
            check_size(program)
            steps.append(("named", at, named))
            at = at + (1,)
        moved.append((place, positions))
    return (program, steps)


def with_part(making, position, part):
    """A making with another part of its tuple."""
    _, con, argument = making
    parts = argument[1][:position] + (part,) + argument[1][position + 1:]
    return ("con", con, ("tuple", parts))


def place_behind(place, moved):
    """The place to which what stood at a place has come, where the parts of outer makings were named."""
    found = ()
    at = 0
    while at < len(place):
        told = [positions for made, positions in moved if made == place[:at]]
        if told and place[at] == 0 and place[at + 1] in told[0]:
            # The step 0 led to the tuple, the next one to the part: it is what the let of its number names now.
            found = found + (1,) * told[0].index(place[at + 1]) + (0,)
            at += 2
        elif told:
            found = found + (1,) * len(told[0]) + (place[at],)
            at += 1
        else:
            found = found + (place[at],)
            at += 1
    return found
