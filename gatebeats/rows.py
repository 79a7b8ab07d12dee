"""Rows of beats, and gates over them."""

from gatebeats.basics import is_within
from gatebeats.errors import NoGate, NoRow

MOST_BEATS = 40
LAST_TICK = 9999
LONGEST_GATE = 9999


def is_row(thing):
    """Whether any thing is a row."""
    if not isinstance(thing, tuple) or len(thing) > MOST_BEATS:
        return False
    # What is not a whole number may have no order, so this comes ahead of it.
    if not all([is_within(beat, 0, LAST_TICK) for beat in thing]):
        return False
    return all([sooner < later for sooner, later in zip(thing, thing[1:])])


def check_row(row):
    if not is_row(row):
        raise NoRow("a row is a tuple of 0 to 40 rising whole numbers from 0 to 9999")


def check_rows(one, other):
    check_row(one)
    check_row(other)


def check_length(length):
    if not is_within(length, 1, LONGEST_GATE):
        raise NoGate("a gate is as long as a whole number from 1 to 9999")


def check_gate(start, length):
    if not is_within(start, 0, LAST_TICK):
        raise NoGate("a gate starts at a whole number from 0 to 9999")
    check_length(length)


def beats_from(row, start, end):
    """A list of the beats of a row from tick start on and ahead of tick end."""
    return [beat for beat in row if start <= beat < end]


def beats_in(row, start, length):
    """A list of the beats of a row that are in a gate."""
    check_row(row)
    check_gate(start, length)
    return beats_from(row, start, start + length)


def counted(row, start, length):
    """How many beats are in a gate."""
    return len(beats_in(row, start, length))


def gaps(row):
    """A list of how many ticks each beat, but the first, is behind the one ahead."""
    check_row(row)
    return [later - sooner for sooner, later in zip(row, row[1:])]
