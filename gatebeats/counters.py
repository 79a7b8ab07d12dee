"""Counters, which tell each gate as it ends."""

from gatebeats.basics import is_whole, is_within
from gatebeats.errors import NoGate, NoRow
from gatebeats.gates import check_gates, gate_starts
from gatebeats.rows import beats_from, check_row

MOST_TICKS = 9999


def check_step(ticks, row):
    check_row(row)
    # A row that the ticks have no room for is refused ahead of ticks that are too few or too many.
    if is_whole(ticks) and len(row) > 0 and row[-1] >= ticks:
        raise NoRow("each beat is ahead of the tick behind those that go by")
    if not is_within(ticks, 0, MOST_TICKS):
        raise NoGate("ticks that go by are a whole number from 0 to 9999")


class Counter:
    """Several gates, and what has been counted in them so far."""

    def __init__(self, start, length, dead, many):
        check_gates(start, length, dead, many)
        self.starts = gate_starts(start, length, dead, many)
        self.length = length
        self.counts = [0] * many
        self.gone = 0

    def go_on(self, ticks, row):
        """So many more ticks go by, with beats at those of a row: a list of (number, count) of gates that end."""
        check_step(ticks, row)
        beats = [self.gone + beat for beat in row]
        ended = []
        for number, at in enumerate(self.starts):
            end = at + self.length
            self.counts[number] += len(beats_from(beats, at, end))
            if self.gone < end <= self.gone + ticks:
                ended.append((number, self.counts[number]))
        self.gone += ticks
        return ended

    def over(self):
        """How many ticks are over."""
        return self.gone

    def now(self):
        """How many beats have come in the gate of the next tick; None, where that is in none."""
        for at, count in zip(self.starts, self.counts):
            if at <= self.gone < at + self.length:
                return count
        return None
