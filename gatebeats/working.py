"""Rows that are made of other rows, and the ticks that beats leave free."""

from gatebeats.basics import is_within
from gatebeats.errors import NoGate
from gatebeats.rows import beats_in, check_length, check_row, check_rows

MOST_SHIFT = 9999
MOST_TIMES = 40


def row_of(beats):
    """The row of rising beats; NoRow, where they make none."""
    row = tuple(beats)
    check_row(row)
    return row


def check_times(by):
    if not is_within(by, 1, MOST_TIMES):
        raise NoGate("a row is divided or slowed by a whole number from 1 to 40")


def shifted(row, by):
    """The row with each beat so many ticks later, below 0 sooner."""
    check_row(row)
    if not is_within(by, -MOST_SHIFT, MOST_SHIFT):
        raise NoGate("a row is shifted by a whole number from -9999 to 9999")
    return row_of([beat + by for beat in row])


def merged(one, other):
    """The row of the beats of both, those in one tick once."""
    check_rows(one, other)
    return row_of(sorted(set(one + other)))


def cut_out(row, start, length):
    """The row of the beats in a gate, counted from its start."""
    return tuple([beat - start for beat in beats_in(row, start, length)])


def divided(row, by):
    """The row of the first beat and, from it on, each so many beats behind the one ahead."""
    check_row(row)
    check_times(by)
    return row[::by]


def slowed(row, by):
    """The row with each beat in so many times its tick."""
    check_row(row)
    check_times(by)
    return row_of([beat * by for beat in row])


def missing(row, length):
    """A list of (start, many) of the stretches between two beats that have no beat, and length ticks or more."""
    check_row(row)
    check_length(length)
    stretches = [(sooner + 1, later - sooner - 1) for sooner, later in zip(row, row[1:])]
    return [(start, many) for start, many in stretches if many >= length]
