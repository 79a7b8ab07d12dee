"""The time from beats of one row to those of another."""

from gatebeats.rows import beats_from, check_rows


def wait_for(beat, row):
    """How many ticks the next beat of a row is behind one; None, where none comes."""
    for later in row:
        if later >= beat:
            return later - beat
    return None


def to_next(one, other):
    """A list, for each beat of the one row, of how many ticks it is to the other's next beat, or None."""
    check_rows(one, other)
    return [wait_for(beat, other) for beat in one]


def longest_wait(one, other):
    """The greatest of what to_next tells; None without any."""
    waits = [wait for wait in to_next(one, other) if wait is not None]
    return max(waits, default=None)


def between(one, other):
    """A list, for each beat of the one row but the last, of how many of the other come ahead of the next one."""
    check_rows(one, other)
    return [len(beats_from(other, sooner, later)) for sooner, later in zip(one, one[1:])]
