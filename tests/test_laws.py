"""[0.2] (a), (b) and (c): what holds for all rows and gates."""

import unittest
from fractions import Fraction
from math import floor, gcd

from gatebeats.errors import NoPeriod
from gatebeats.gates import in_gates, lost
from gatebeats.periods import bounds, can_be_steady, can_count, phase_for, simplest, steady
from gatebeats.rates import by_count, by_time
from gatebeats.rows import counted
from tests.helper import ROWS, steady_moments, steady_rows


class GatesSideBySideTest(unittest.TestCase):
    def check_parts(self, row, start, lengths):
        together = 0
        at = start
        for length in lengths:
            together += counted(row, at, length)
            at += length
        self.assertEqual(together, counted(row, start, sum(lengths)))

    def test_two_gates_parted_anywhere(self):
        for row in ROWS:
            for start in (0, 2, 9950):
                for first in range(1, 50):
                    with self.subTest(row=row, start=start, first=first):
                        self.check_parts(row, start, [first, 50 - first])

    def test_several_gates(self):
        for row in ROWS:
            for start in (0, 1, 3, 9900):
                for lengths in ([1] * 60, [1, 2, 3, 4, 5, 6], [10] * 9, [7, 1, 30, 2], [5, 5, 5]):
                    with self.subTest(row=row, start=start, lengths=lengths):
                        self.check_parts(row, start, lengths)

    def test_long_gates(self):
        for row in ROWS:
            with self.subTest(row=row):
                self.check_parts(row, 0, [5000, 4000, 998, 1])
                self.check_parts(row, 0, [9998, 1])
                self.check_parts(row, 1, [1, 9998])

    def test_in_gates(self):
        for row in ROWS:
            for start in (0, 1, 3, 9900, 9999):
                for length in (1, 2, 5, 10, 77, 499):
                    for many in (1, 2, 3, 19, 20):
                        with self.subTest(row=row, start=start, length=length, many=many):
                            counts = in_gates(row, start, length, 0, many)
                            self.assertEqual(sum(counts), counted(row, start, length * many))
                            self.check_parts(row, start, [length] * min(many, (9999 - start) // length + 1))

    def test_in_gates_tells_each_gate_as_counted_does(self):
        for row in ROWS:
            for start, length, dead, many in [(0, 5, 3, 20), (2, 1, 1, 9), (0, 400, 100, 20), (7, 10, 0, 20)]:
                due = [counted(row, start + place * (length + dead), length) for place in range(many)]
                with self.subTest(row=row, start=start, length=length, dead=dead, many=many):
                    self.assertEqual(in_gates(row, start, length, dead, many), due)

    def test_gates_and_what_is_lost(self):
        for row in ROWS:
            for start, length, dead, many in [(0, 5, 3, 20), (2, 1, 1, 9), (0, 400, 90, 20), (7, 10, 0, 20), (3, 4, 9, 1)]:
                whole = many * length + (many - 1) * dead
                with self.subTest(row=row, start=start, length=length, dead=dead, many=many):
                    counts = in_gates(row, start, length, dead, many)
                    together = sum(counts) + lost(row, start, length, dead, many)
                    self.assertEqual(together, counted(row, start, whole))


def told_rows():
    """Tuples (phase, period, row) of rows that steady tells."""
    phases = [(0, 1), (1, 2), (98, 99), (7, 3), (40, 1), (1234, 97), (9959, 1), (9999 * 99 - 1, 99)]
    downs = [1, 2, 3, 7, 13, 40, 98, 99]
    periods = [(up, down) for down in downs for up in (1, 2, 3, 5, 8, 20, 97, 98, 99, 100, 151, 700, 24601)]
    for phase in phases:
        for period in periods:
            if gcd(*period) == 1 and Fraction(*period) <= 9999:
                for many in (0, 1, 2, 3, 4, 6, 13, 40):
                    try:
                        row = steady(phase, period, many)
                    except NoPeriod:
                        continue
                    yield phase, period, row


def all_steady_rows():
    yield from steady_rows()
    for phase, period, row in told_rows():
        if len(row) > 1:
            yield Fraction(*period), row


def gates_within(row):
    """Gates that neither begin ahead of a row's first beat nor end behind its last one."""
    first, last = row[0], row[-1]
    span = last - first + 1
    for start in sorted({first, first + 1, first + span // 3, first + span // 2, last}):
        room = last - start + 1
        for length in sorted({1, 2, 3, room // 2, room - 1, room}):
            if 1 <= length <= min(room, 9999):
                yield start, length


def gates_about(row):
    yield from gates_within(row)
    yield 0, 9999
    yield 0, row[0] + 1
    yield max(row[0] - 1, 0), row[-1] - row[0] + 3


class TrueRateTest(unittest.TestCase):
    def check_within(self, pair, period):
        low, high = Fraction(*pair[0]), Fraction(*pair[1])
        self.assertLessEqual(low, 1 / period)
        self.assertLessEqual(1 / period, high)

    def test_by_time(self):
        tried = below_one = 0
        for period, row in all_steady_rows():
            for gate in gates_about(row):
                pair = by_time(row, *gate)
                if pair is not None:
                    tried += 1
                    below_one += period < 1
                    with self.subTest(period=period, row=row, gate=gate):
                        self.check_within(pair, period)
        self.assertGreater(tried, 1000)
        self.assertGreater(below_one, 10)

    def test_by_count(self):
        tried = 0
        for period, row in all_steady_rows():
            if period >= 1:
                for gate in gates_within(row):
                    tried += 1
                    with self.subTest(period=period, row=row, gate=gate):
                        self.check_within(by_count(row, *gate), period)
        self.assertGreater(tried, 1000)


class SteadyRowsTest(unittest.TestCase):
    def test_a_row_of_steady_beats_can_be_of_such(self):
        tried = 0
        for phase, period, row in told_rows():
            tried += 1
            with self.subTest(phase=phase, period=period, row=row):
                self.assertIs(can_be_steady(row), True)
        self.assertGreater(tried, 1000)

    def test_its_true_period_is_within_those_told(self):
        for phase, period, row in told_rows():
            if len(row) > 1:
                low, high = bounds(row)
                with self.subTest(phase=phase, period=period, row=row):
                    self.assertLess(Fraction(*low), Fraction(*period))
                    self.assertLess(Fraction(*period), Fraction(*high))

    def test_the_simplest_one_makes_a_row_that_agrees(self):
        for phase, period, row in told_rows():
            if len(row) > 1:
                first, simple = phase_for(row), simplest(row)
                moments = steady_moments(Fraction(*first), Fraction(*simple), len(row))
                with self.subTest(phase=phase, period=period, row=row):
                    self.assertEqual(tuple([floor(moment) for moment in moments]), row)
                    self.assertEqual(steady(first, simple, len(row)), row)
                    self.assertLessEqual(simple[1], period[1])

    def test_gates_within_count_what_can_be_counted(self):
        for phase, period, row in told_rows():
            if len(row) > 1:
                for start, length in gates_within(row):
                    # The last tick may have beats that would come behind those of the row.
                    if start + length <= row[-1] and start > row[0]:
                        with self.subTest(period=period, row=row, start=start, length=length):
                            self.assertIn(counted(row, start, length), can_count(period, length))


if __name__ == "__main__":
    unittest.main()
