"""Runs of programs: their traces and ends, whole or as they look from outside."""

from changedsame.basics import is_count, is_number
from changedsame.errors import InvalidInputs, InvalidProgram, InvalidTicks, NotAccepted
from changedsame.infer import is_accepted
from changedsame.steps import Running, run_on
from changedsame.trees import is_program
from changedsame.wholes import resolved

MOST_INPUTS = 200
MOST_TICKS = 5000
SPENT = ("spent",)


def are_inputs(value):
    """Whether any value is a list of numbers that a run may ask for."""
    if not isinstance(value, (list, tuple)) or len(value) > MOST_INPUTS:
        return False
    return all([is_number(number) for number in value])


def is_ticks(value):
    """Whether any value is a number of ticks."""
    return is_count(value) and value <= MOST_TICKS


def run_plain(program, inputs, ticks):
    """The outcome of a program: a tuple of the trace, a list, and the end."""
    check_run(program, inputs, ticks)
    running = Running(resolved(program), inputs)
    run_on(running, ticks)
    return (list(running.events), SPENT if running.final is None else running.final)


def run_outer(program, inputs, ticks):
    """The outer outcome of a program: the same with what is told and asked alone."""
    trace, final = run_plain(program, inputs, ticks)
    return ([event for event in trace if event[0] in ("tell", "ask")], final)


def check_run(program, inputs, ticks):
    """Raises the error of what can't be run so."""
    if not is_program(program):
        raise InvalidProgram(program)
    if not are_inputs(inputs):
        raise InvalidInputs(inputs)
    if not is_ticks(ticks):
        raise InvalidTicks(ticks)
    if not is_accepted(program):
        raise NotAccepted()


class PlainRun:
    """A run that goes on in pieces, and changes so; at first it has not begun."""

    def __init__(self, program, inputs):
        check_run(program, inputs, 0)
        self.running = Running(resolved(program), inputs)

    def go(self, ticks):
        """Goes on until the run ends, or so many further ticks are made and a further call is due; the end."""
        if not is_ticks(ticks):
            raise InvalidTicks(ticks)
        run_on(self.running, ticks)
        return self.running.final

    @property
    def ticks(self):
        """How many ticks the run has made."""
        return self.running.calls

    def trace(self):
        """The list of the run's events so far."""
        return list(self.running.events)

    def end(self):
        """The run's end, None as long as it goes on."""
        return self.running.final

    def cells(self):
        """How many cells were made."""
        return len(self.running.store.kinds)
