"""How often beats come, with bounds, and which way of telling it is sharper."""

from gatebeats.basics import fraction, is_less
from gatebeats.rows import beats_in, counted


def by_count(row, start, length):
    """Two fractions, beats each tick lie between them, by how many are in a gate."""
    many = counted(row, start, length)
    return (fraction(max(many - 1, 0), length), fraction(many + 1, length))


def by_time(row, start, length):
    """The same by the first and the last beat in the gate; None, where these do not tell."""
    beats = beats_in(row, start, length)
    if len(beats) < 2:
        return None
    behind = len(beats) - 1
    ticks = beats[-1] - beats[0]
    # Two beats side by side may be as near each other as one likes: no upper bound.
    if ticks == 1:
        return None
    return (fraction(behind, ticks + 1), fraction(behind, ticks - 1))


def width(pair):
    """How far apart two fractions are, the lower one being first."""
    (low_up, low_down), (high_up, high_down) = pair
    return fraction(high_up * low_down - low_up * high_down, low_down * high_down)


def sharper(row, start, length):
    """The word time, where by_time tells closer bounds than by_count; else count."""
    by_first_and_last = by_time(row, start, length)
    if by_first_and_last is None:
        return "count"
    if is_less(width(by_first_and_last), width(by_count(row, start, length))):
        return "time"
    return "count"
