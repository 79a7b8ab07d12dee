"""What several test files need."""

from fractions import Fraction
from functools import lru_cache
from math import floor

# Any thing that is no whole number, some five deep.
NO_WHOLES = [
    True, False, None, "", "1", "time", [], (), [1], (1,), [True], (None,), ["1"], [[1], 2], ((1, 2), "3"),
    [[[[[1]]]]], (((((1,),),),),), [(["1", (None, [True])],)],
]

NO_STARTS = NO_WHOLES + [-1, -9999, 10000, 10001, 99999]
NO_LENGTHS = NO_WHOLES + [0, -1, -9999, 10000, 10001, 99999]
NO_DEADS = NO_WHOLES + [-1, -9999, 10000, 10001]
NO_MANIES = NO_WHOLES + [0, -1, -20, 21, 22, 100]

# Starts, lengths, dead ticks and how many gates, all of them such that may be.
GATES = [
    (0, 1, 0, 1), (0, 1, 0, 20), (0, 1, 1, 20), (0, 3, 2, 5), (1, 4, 1, 3), (3, 2, 7, 6), (5, 10, 0, 20),
    (0, 10, 5, 20), (2, 9999, 0, 1), (0, 9999, 9999, 5), (9999, 1, 0, 1), (9999, 1, 4500, 20), (9950, 7, 3, 20),
    (9999, 9999, 9999, 1), (0, 5000, 0, 20), (4, 2, 9999, 10), (100, 1, 4899, 3),
]

# The last tick of these is 99999.
LONGEST_GATES = [(0, 5000, 0, 20), (9999, 1, 9999, 10), (9980, 4501, 0, 20), (1, 9000, 1111, 10), (1, 9999, 1, 10)]

# A tuple with one of these in it, alone or among whole numbers, is no row.
NO_BEATS = NO_WHOLES + [-1, 10000, -10000, 99999]

FULL_ROW = tuple(range(0, 400, 10))

NO_ROWS = (
    [True, False, None, 0, 1, -1, 10000, "", "1", "|..|", [], [1], [1, 2, 3], [[]], [()], [(1, 2)]]
    + [(beat,) for beat in NO_BEATS]
    + [(0, beat) for beat in NO_BEATS]
    + [(beat, 5000) for beat in NO_BEATS]
    + [(1, beat, 9999) for beat in NO_BEATS]
    + [(1, 1), (0, 0), (2, 1), (9999, 0), (1, 3, 2), (1, 2, 2), (1, 2, 3, 1), (5, 6, 6, 7)]
    + [tuple(range(41)), tuple(range(9959, 10000)) + (10000,), tuple(range(9959, 10000)), tuple(range(100))]
    + [(((((1,),),),),), [[[[[1]]]]], ([], [[]], ((),)), [((), [None, (True, ["1"])])]]
    + [list(FULL_ROW), FULL_ROW[::-1]]
)

ROWS = [
    (), (0,), (9999,), (5,), (0, 1), (3, 4), (0, 9999), (9998, 9999), (4, 7), (0, 1, 2), (2, 3, 4, 5), (1, 4, 9, 16, 25),
    (0, 10, 20, 30), (3, 5, 6, 12, 13, 40), (100, 101, 5000, 9000, 9999), FULL_ROW, tuple(range(40)),
    tuple(range(9960, 10000)),
]


def steady_moments(phase, period, many):
    return [phase + place * period for place in range(many)]


def steady_rows():
    """Tuples (period, row) of rows of steady beats, no two of them in one tick, none above 9999."""
    phases = [Fraction(0), Fraction(1, 2), Fraction(98, 99), Fraction(7, 3), Fraction(40)]
    periods = [Fraction(up, down) for down in (1, 2, 3, 7, 99) for up in (1, 2, 3, 5, 8, 20, 98, 99, 100, 150, 700)]
    for phase in phases:
        for period in sorted(set(periods)):
            for many in (2, 3, 6, 13, 40):
                row = tuple([floor(moment) for moment in steady_moments(phase, period, many)])
                if len(set(row)) == many and row[-1] <= 9999:
                    yield period, row


def span_of_phases(row, period):
    """The least phase with which the period makes the row, and the one with which it does no more."""
    low = max([beat - place * period for place, beat in enumerate(row)])
    high = min([beat + 1 - place * period for place, beat in enumerate(row)])
    return low, high


def makes(row, period):
    low, high = span_of_phases(row, period)
    return period > 0 and low < high


@lru_cache(maxsize=None)
def steady_by_search(row):
    """Whether a small row can be of steady beats, found by trying all periods that could be needed."""
    if len(row) < 2:
        return True
    behind, ticks = len(row) - 1, row[-1] - row[0]
    # Bounds have downs up to as many as are behind the first; the simplest between two such has twice that at most.
    for down in range(1, 2 * behind + 1):
        for up in range((ticks - 1) * down // behind, (ticks + 1) * down // behind + 2):
            if makes(row, Fraction(up, down)):
                return True
    return False
