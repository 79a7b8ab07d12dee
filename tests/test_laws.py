"""[0.2] (a), and (b) of by_time and by_count: what holds for all rows and gates."""

import unittest
from fractions import Fraction

from gatebeats.rates import by_count, by_time
from gatebeats.rows import counted
from tests.helper import ROWS, steady_rows


class GatesSideBySideTest(unittest.TestCase):
    def check_parts(self, row, start, lengths):
        together = 0
        at = start
        for length in lengths:
            together += counted(row, at, length)
            at += length
        self.assertEqual(together, counted(row, start, sum(lengths)))

    def test_two_gates_parted_anywhere(self):
        for row in ROWS:
            for start in (0, 2, 9950):
                for first in range(1, 50):
                    with self.subTest(row=row, start=start, first=first):
                        self.check_parts(row, start, [first, 50 - first])

    def test_several_gates(self):
        for row in ROWS:
            for start in (0, 1, 3, 9900):
                for lengths in ([1] * 60, [1, 2, 3, 4, 5, 6], [10] * 9, [7, 1, 30, 2], [5, 5, 5]):
                    with self.subTest(row=row, start=start, lengths=lengths):
                        self.check_parts(row, start, lengths)

    def test_long_gates(self):
        for row in ROWS:
            with self.subTest(row=row):
                self.check_parts(row, 0, [5000, 4000, 998, 1])
                self.check_parts(row, 0, [9998, 1])
                self.check_parts(row, 1, [1, 9998])


def gates_within(row):
    """Gates that neither begin ahead of a row's first beat nor end behind its last one."""
    first, last = row[0], row[-1]
    span = last - first + 1
    for start in sorted({first, first + 1, first + span // 3, first + span // 2, last}):
        room = last - start + 1
        for length in sorted({1, 2, 3, room // 2, room - 1, room}):
            if 1 <= length <= min(room, 9999):
                yield start, length


def gates_about(row):
    yield from gates_within(row)
    yield 0, 9999
    yield 0, row[0] + 1
    yield max(row[0] - 1, 0), row[-1] - row[0] + 3


class TrueRateTest(unittest.TestCase):
    def check_within(self, pair, period):
        low, high = Fraction(*pair[0]), Fraction(*pair[1])
        self.assertLessEqual(low, 1 / period)
        self.assertLessEqual(1 / period, high)

    def test_by_time(self):
        tried = below_one = 0
        for period, row in steady_rows():
            for gate in gates_about(row):
                pair = by_time(row, *gate)
                if pair is not None:
                    tried += 1
                    below_one += period < 1
                    with self.subTest(period=period, row=row, gate=gate):
                        self.check_within(pair, period)
        self.assertGreater(tried, 1000)
        self.assertGreater(below_one, 10)

    def test_by_count(self):
        tried = 0
        for period, row in steady_rows():
            if period >= 1:
                for gate in gates_within(row):
                    tried += 1
                    with self.subTest(period=period, row=row, gate=gate):
                        self.check_within(by_count(row, *gate), period)
        self.assertGreater(tried, 1000)


if __name__ == "__main__":
    unittest.main()
