"""Beats of two rows that belong together."""

from gatebeats.basics import is_within
from gatebeats.errors import NoGate
from gatebeats.rows import check_rows

MOST_APART = 9999


def check_apart(ticks):
    if not is_within(ticks, 0, MOST_APART):
        raise NoGate("beats are near each other, and shifted, by a whole number from 0 to 9999")


def couples(one, other, near):
    """A list of (beat of one, beat of other), as many as can be that are near, each beat in one at most."""
    check_rows(one, other)
    check_apart(near)
    told = []
    place = 0
    for beat in one:
        # What is too far ahead of this beat is so of all that follow it.
        while place < len(other) and other[place] < beat - near:
            place += 1
        if place < len(other) and other[place] <= beat + near:
            told.append((beat, other[place]))
            place += 1
    return told


def to_nearest(beat, row):
    """How many ticks the nearest beat of a row is from one; the row has beats."""
    return min([abs(beat - each) for each in row])


def alone(one, other, near):
    """A rising list of the beats of the one row that no beat of the other one is so near."""
    check_rows(one, other)
    check_apart(near)
    if len(other) == 0:
        return list(one)
    return [beat for beat in one if to_nearest(beat, other) > near]


def best_shift(one, other, most):
    """By how many ticks the other row is to be later, so that as many beats as can be are in ticks of the one's."""
    check_rows(one, other)
    check_apart(most)
    # Without any in common all shifts do as well, and no other is as near 0.
    common = {0: 0}
    for beat in one:
        for each in other:
            if abs(beat - each) <= most:
                common[beat - each] = common.get(beat - each, 0) + 1
    return min(list(common), key=lambda by: (-common[by], abs(by), -by))


def farthest(one, other):
    """The most ticks that a beat of either row is from the nearest one of the other; None, where one has none."""
    check_rows(one, other)
    if len(one) == 0 or len(other) == 0:
        return None
    return max([to_nearest(beat, other) for beat in one] + [to_nearest(beat, one) for beat in other])
