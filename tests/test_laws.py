"""[0.2] (a) to (e): what holds for all rows and gates."""

import unittest
from fractions import Fraction
from itertools import cycle, product
from math import floor, gcd
from random import Random

from gatebeats.counters import Counter
from gatebeats.errors import NoPeriod, NoText
from gatebeats.gates import in_gates, lost
from gatebeats.periods import bounds, can_be_steady, can_count, phase_for, simplest, steady
from gatebeats.rates import by_count, by_time
from gatebeats.rows import counted
from gatebeats.texts import read_row, row_text
from tests.helper import GATES, ROWS, steady_moments, steady_rows


class GatesSideBySideTest(unittest.TestCase):
    def check_parts(self, row, start, lengths):
        together = 0
        at = start
        for length in lengths:
            together += counted(row, at, length)
            at += length
        self.assertEqual(together, counted(row, start, sum(lengths)))

    def test_two_gates_parted_anywhere(self):
        for row in ROWS:
            for start in (0, 2, 9950):
                for first in range(1, 50):
                    with self.subTest(row=row, start=start, first=first):
                        self.check_parts(row, start, [first, 50 - first])

    def test_several_gates(self):
        for row in ROWS:
            for start in (0, 1, 3, 9900):
                for lengths in ([1] * 60, [1, 2, 3, 4, 5, 6], [10] * 9, [7, 1, 30, 2], [5, 5, 5]):
                    with self.subTest(row=row, start=start, lengths=lengths):
                        self.check_parts(row, start, lengths)

    def test_long_gates(self):
        for row in ROWS:
            with self.subTest(row=row):
                self.check_parts(row, 0, [5000, 4000, 998, 1])
                self.check_parts(row, 0, [9998, 1])
                self.check_parts(row, 1, [1, 9998])

    def test_in_gates(self):
        for row in ROWS:
            for start in (0, 1, 3, 9900, 9999):
                for length in (1, 2, 5, 10, 77, 499):
                    for many in (1, 2, 3, 19, 20):
                        with self.subTest(row=row, start=start, length=length, many=many):
                            counts = in_gates(row, start, length, 0, many)
                            self.assertEqual(sum(counts), counted(row, start, length * many))
                            self.check_parts(row, start, [length] * min(many, (9999 - start) // length + 1))

    def test_in_gates_tells_each_gate_as_counted_does(self):
        for row in ROWS:
            for start, length, dead, many in [(0, 5, 3, 20), (2, 1, 1, 9), (0, 400, 100, 20), (7, 10, 0, 20)]:
                due = [counted(row, start + place * (length + dead), length) for place in range(many)]
                with self.subTest(row=row, start=start, length=length, dead=dead, many=many):
                    self.assertEqual(in_gates(row, start, length, dead, many), due)

    def test_gates_and_what_is_lost(self):
        for row in ROWS:
            for start, length, dead, many in [(0, 5, 3, 20), (2, 1, 1, 9), (0, 400, 90, 20), (7, 10, 0, 20), (3, 4, 9, 1)]:
                whole = many * length + (many - 1) * dead
                with self.subTest(row=row, start=start, length=length, dead=dead, many=many):
                    counts = in_gates(row, start, length, dead, many)
                    together = sum(counts) + lost(row, start, length, dead, many)
                    self.assertEqual(together, counted(row, start, whole))


def told_rows():
    """Tuples (phase, period, row) of rows that steady tells."""
    phases = [(0, 1), (1, 2), (98, 99), (7, 3), (40, 1), (1234, 97), (9959, 1), (9999 * 99 - 1, 99)]
    downs = [1, 2, 3, 7, 13, 40, 98, 99]
    periods = [(up, down) for down in downs for up in (1, 2, 3, 5, 8, 20, 97, 98, 99, 100, 151, 700, 24601)]
    for phase in phases:
        for period in periods:
            if gcd(*period) == 1 and Fraction(*period) <= 9999:
                for many in (0, 1, 2, 3, 4, 6, 13, 40):
                    try:
                        row = steady(phase, period, many)
                    except NoPeriod:
                        continue
                    yield phase, period, row


def all_steady_rows():
    yield from steady_rows()
    for phase, period, row in told_rows():
        if len(row) > 1:
            yield Fraction(*period), row


def gates_within(row):
    """Gates that neither begin ahead of a row's first beat nor end behind its last one."""
    first, last = row[0], row[-1]
    span = last - first + 1
    for start in sorted({first, first + 1, first + span // 3, first + span // 2, last}):
        room = last - start + 1
        for length in sorted({1, 2, 3, room // 2, room - 1, room}):
            if 1 <= length <= min(room, 9999):
                yield start, length


def gates_about(row):
    yield from gates_within(row)
    yield 0, 9999
    yield 0, row[0] + 1
    yield max(row[0] - 1, 0), row[-1] - row[0] + 3


class TrueRateTest(unittest.TestCase):
    def check_within(self, pair, period):
        low, high = Fraction(*pair[0]), Fraction(*pair[1])
        self.assertLessEqual(low, 1 / period)
        self.assertLessEqual(1 / period, high)

    def test_by_time(self):
        tried = below_one = 0
        for period, row in all_steady_rows():
            for gate in gates_about(row):
                pair = by_time(row, *gate)
                if pair is not None:
                    tried += 1
                    below_one += period < 1
                    with self.subTest(period=period, row=row, gate=gate):
                        self.check_within(pair, period)
        self.assertGreater(tried, 1000)
        self.assertGreater(below_one, 10)

    def test_by_count(self):
        tried = 0
        for period, row in all_steady_rows():
            if period >= 1:
                for gate in gates_within(row):
                    tried += 1
                    with self.subTest(period=period, row=row, gate=gate):
                        self.check_within(by_count(row, *gate), period)
        self.assertGreater(tried, 1000)


class SteadyRowsTest(unittest.TestCase):
    def test_a_row_of_steady_beats_can_be_of_such(self):
        tried = 0
        for phase, period, row in told_rows():
            tried += 1
            with self.subTest(phase=phase, period=period, row=row):
                self.assertIs(can_be_steady(row), True)
        self.assertGreater(tried, 1000)

    def test_its_true_period_is_within_those_told(self):
        for phase, period, row in told_rows():
            if len(row) > 1:
                low, high = bounds(row)
                with self.subTest(phase=phase, period=period, row=row):
                    self.assertLess(Fraction(*low), Fraction(*period))
                    self.assertLess(Fraction(*period), Fraction(*high))

    def test_the_simplest_one_makes_a_row_that_agrees(self):
        for phase, period, row in told_rows():
            if len(row) > 1:
                first, simple = phase_for(row), simplest(row)
                moments = steady_moments(Fraction(*first), Fraction(*simple), len(row))
                with self.subTest(phase=phase, period=period, row=row):
                    self.assertEqual(tuple([floor(moment) for moment in moments]), row)
                    self.assertEqual(steady(first, simple, len(row)), row)
                    self.assertLessEqual(simple[1], period[1])

    def test_gates_within_count_what_can_be_counted(self):
        for phase, period, row in told_rows():
            if len(row) > 1:
                for start, length in gates_within(row):
                    # The last tick may have beats that would come behind those of the row.
                    if start + length <= row[-1] and start > row[0]:
                        with self.subTest(period=period, row=row, start=start, length=length):
                            self.assertIn(counted(row, start, length), can_count(period, length))


def ends_of(start, length, dead, many):
    return [start + place * (length + dead) + length for place in range(many)]


class CountersTest(unittest.TestCase):
    """(d) a counter tells what gates tell, in whatever steps."""

    def check_steps(self, row, gates, steps, last):
        """Goes on by steps, again from the first behind the last one, until so many ticks are over."""
        ends = ends_of(*gates)
        counts = in_gates(row, *gates)
        counter = Counter(*gates)
        told, at = [], 0
        for ticks in cycle(steps):
            if at >= last:
                break
            ended = counter.go_on(ticks, tuple([beat - at for beat in row if at <= beat < at + ticks]))
            self.assertEqual(ended, [(number, counts[number]) for number, end in enumerate(ends) if at < end <= at + ticks])
            told += ended
            at += ticks
            self.assertEqual(counter.over(), at)
        self.assertEqual(told, [(number, counts[number]) for number, end in enumerate(ends) if end <= at])
        return told

    def test_to_the_end_of_all_gates(self):
        tried = 0
        for row in ROWS:
            for gates in GATES:
                for steps in ([9999], [5000, 0, 1, 4999], [0, 0, 7777], [1, 3000, 2], [1111, 0]):
                    tried += 1
                    with self.subTest(row=row, gates=gates, steps=steps):
                        told = self.check_steps(row, gates, steps, ends_of(*gates)[-1])
                        self.assertEqual(told, list(enumerate(in_gates(row, *gates))))
        self.assertGreater(tried, 1000)

    def test_small_steps(self):
        for row in [(), (0,), (2, 3, 4, 5), (1, 4, 9, 16, 25), (3, 5, 6, 12, 13, 40), tuple(range(40))]:
            for start, length, dead, many in product((0, 1, 5), (1, 2, 5), (0, 1, 3), (1, 2, 6)):
                for steps in ([1], [0, 1], [2], [1, 0, 0, 2], [3, 1], [5], [7, 4], [100]):
                    gates = (start, length, dead, many)
                    with self.subTest(row=row, gates=gates, steps=steps):
                        self.check_steps(row, gates, steps, ends_of(*gates)[-1] + 5)

    def test_steps_of_all_sizes(self):
        random = Random(6)
        for time in range(300):
            row = tuple(sorted(random.sample(range(300), random.randrange(41))))
            gates = (random.randrange(60), random.randrange(1, 30), random.randrange(9), random.randrange(1, 21))
            steps = [random.choice([0, 1, 2, random.randrange(20), random.randrange(200)]) for step in range(20)] + [1]
            with self.subTest(row=row, gates=gates, steps=steps):
                self.check_steps(row, gates, steps, ends_of(*gates)[-1])


def row_ends_ahead_of_60(row):
    return len(row) == 0 or row[-1] < 60


class TextsTest(unittest.TestCase):
    """(e) texts read back as what they write, and as nothing else."""

    def test_texts_of_rows_read_back(self):
        random = Random(7)
        rows = [row for row in ROWS if row_ends_ahead_of_60(row)]
        rows += [tuple(sorted(random.sample(range(60), random.randrange(41)))) for time in range(500)]
        for row in rows:
            with self.subTest(row=row):
                self.assertEqual(read_row(row_text(row)), row)

    def test_no_two_rows_have_one_text(self):
        rows = [tuple([tick for tick in range(8) if bits >> tick & 1]) for bits in range(256)]
        self.assertEqual(len({row_text(row) for row in rows}), len(rows))

    def test_all_small_texts(self):
        texts = {row_text(tuple([tick for tick in range(6) if bits >> tick & 1])) for bits in range(64)}
        read = 0
        for many in range(7):
            for signs in product("|. \nx", repeat=many):
                text = "".join(signs)
                with self.subTest(text=text):
                    if text in texts:
                        read += 1
                        self.assertEqual(row_text(read_row(text)), text)
                    else:
                        self.assertRaises(NoText, read_row, text)
        self.assertEqual(read, 64)


if __name__ == "__main__":
    unittest.main()
