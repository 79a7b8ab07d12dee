"""Gates one behind the other, with dead ticks between, and what their counts come to."""

from gatebeats.basics import fraction, is_within
from gatebeats.errors import NoGate
from gatebeats.rows import beats_from, check_gate, check_row

MOST_DEAD = 9999
MOST_GATES = 20
LAST_TICK_OF_GATES = 99999
MOST_COUNTED = 99


def gates_end(start, length, dead, many):
    """The tick behind the last one of several gates."""
    return start + many * length + (many - 1) * dead


def check_gates(start, length, dead, many):
    check_gate(start, length)
    if not is_within(dead, 0, MOST_DEAD):
        raise NoGate("dead ticks are a whole number from 0 to 9999")
    if not is_within(many, 1, MOST_GATES):
        raise NoGate("gates are as many as a whole number from 1 to 20")
    if gates_end(start, length, dead, many) - 1 > LAST_TICK_OF_GATES:
        raise NoGate("the last tick of several gates is no more than 99999")


def gate_starts(start, length, dead, many):
    """A list of the first ticks of several gates."""
    return [start + place * (length + dead) for place in range(many)]


def in_gates(row, start, length, dead, many):
    """A list of how many beats are in each of several gates."""
    check_row(row)
    check_gates(start, length, dead, many)
    # Later gates may start above 9999, where a gate by itself would be refused.
    return [len(beats_from(row, at, at + length)) for at in gate_starts(start, length, dead, many)]


def lost(row, start, length, dead, many):
    """How many beats are between the first gate's start and the last one's end, and in no gate."""
    in_some = sum(in_gates(row, start, length, dead, many))
    end = gates_end(start, length, dead, many)
    return len(beats_from(row, start, end)) - in_some


def check_counts(counts):
    if not isinstance(counts, (list, tuple)) or not is_within(len(counts), 1, MOST_GATES):
        raise NoGate("counts are a list or a tuple of 1 to 20 of them")
    if not all([is_within(count, 0, MOST_COUNTED) for count in counts]):
        raise NoGate("each count is a whole number from 0 to 99")


def mean(counts):
    """What counts come to together, divided by how many they are, a fraction."""
    check_counts(counts)
    return fraction(sum(counts), len(counts))


def spread(counts):
    """By how much the greatest of counts is more than the least."""
    check_counts(counts)
    return max(counts) - min(counts)
