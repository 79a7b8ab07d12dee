"""Steady beats, the rows that can be of such, and their periods and phases."""

from gatebeats.basics import fraction, greater, is_fraction, is_less, is_within, lesser
from gatebeats.errors import NoPeriod
from gatebeats.rows import MOST_BEATS, check_length, check_row, is_row

MOST_DOWN = 99
LONGEST_PERIOD = (9999, 1)
PHASES_END = (9999, 1)


def check_phase(phase):
    if not is_fraction(phase, MOST_DOWN) or not is_less(phase, PHASES_END):
        raise NoPeriod("a phase is a fraction from 0 on, ahead of 9999, its down no more than 99")


def check_period(period):
    if not is_fraction(period, MOST_DOWN) or period[0] == 0 or is_less(LONGEST_PERIOD, period):
        raise NoPeriod("a period is a fraction above 0 and up to 9999, its down no more than 99")


def ticks_of(phase, period, many):
    """A list of the ticks of so many steady beats, also such that are no row."""
    down = phase[1] * period[1]
    first = phase[0] * period[1]
    step = period[0] * phase[1]
    return [(first + place * step) // down for place in range(many)]


def steady(phase, period, many):
    """The row of so many steady beats, the first at phase, each other one a period later."""
    check_phase(phase)
    check_period(period)
    if not is_within(many, 0, MOST_BEATS):
        raise NoPeriod("steady beats are as many as a whole number from 0 to 40")
    row = tuple(ticks_of(phase, period, many))
    if not is_row(row):
        raise NoPeriod("no two steady beats are in one tick, and none is above 9999")
    return row


def can_count(period, length):
    """A rising list of how many steady beats can be in a gate of that length."""
    check_length(length)
    check_period(period)
    up, down = period
    fewest, left = divmod(length * down, up)
    # What is left over is room for one more with some phases, but not with all.
    if left == 0:
        return [fewest]
    return [fewest, fewest + 1]


def bounds(row):
    """Two fractions, strictly between which are the periods that the row can have; None, where there are none."""
    check_row(row)
    if len(row) < 2:
        return None
    low = (0, 1)
    high = (row[1] - row[0] + 1, 1)
    for behind in range(1, len(row)):
        for sooner, later in zip(row, row[behind:]):
            # Each beat is somewhere within its tick, so two are less than a tick nearer or farther than seen.
            low = greater(low, fraction(later - sooner - 1, behind))
            high = lesser(high, fraction(later - sooner + 1, behind))
    if not is_less(low, high):
        return None
    return (low, high)


def can_be_steady(row):
    """Whether a row can be of steady beats."""
    return bounds(row) is not None or len(row) < 2


def simplest_between(low, high):
    """The fraction above low and below high with the least down, of several the one with the least up."""
    down = 1
    while True:
        up = low[0] * down // low[1] + 1
        # With the least down this is in lowest terms: else a lesser down would have done.
        if is_less((up, down), high):
            return (up, down)
        down += 1


def simplest(row):
    """The period with the least down, and then the least up, that the row can have; None, where there is none."""
    pair = bounds(row)
    if pair is None:
        return None
    return simplest_between(pair[0], pair[1])


def phase_for(row):
    """The least phase with which the simplest period makes the row; None, where there is no such period."""
    period = simplest(row)
    if period is None:
        return None
    up, down = period
    # Each beat must not be ahead of its tick; the first phase that is late enough for all is the least.
    latest = max([beat * down - place * up for place, beat in enumerate(row)])
    return fraction(latest, down)
