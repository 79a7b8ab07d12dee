"""[5.1] steady and can_count, and what [0.3] says of them."""

import copy
import unittest
from fractions import Fraction
from math import floor

from gatebeats.errors import NoGate, NoPeriod
from gatebeats.periods import can_count, steady
from gatebeats.rows import is_row
from tests.helper import FULL_ROW, NO_LENGTHS, NO_WHOLES, steady_moments

# What is no fraction at all, of whatever size.
NO_FRACTIONS = (
    NO_WHOLES
    + [0, 1, 5, -1, "1/2", "12", [1, 2], [3, 1], (3,), (3, 1, 1), (), ((3, 1),), ((3, 1), 1), (3, (1,)), [(3, 1)]]
    + [(thing, 1) for thing in NO_WHOLES]
    + [(3, thing) for thing in NO_WHOLES]
    + [(2, 2), (4, 2), (2, 4), (10, 4), (6, 9), (98, 98), (0, 2), (0, 99), (100, 50)]
    + [(3, 0), (0, 0), (1, 0), (3, -1), (-3, -1), (-3, -2), (1, -99), (0, -1)]
)
LARGE_DOWNS = [(1, 100), (101, 100), (1, 101), (9999, 100), (1, 9999), (12345, 1234)]
OUT_OF_BOUNDS = [(-1, 1), (-1, 2), (-1, 99), (-9999, 1), (10000, 1), (9999 * 99 + 1, 99), (19999, 2)]
NO_PERIODS = NO_FRACTIONS + LARGE_DOWNS + OUT_OF_BOUNDS + [(0, 1)]
NO_PHASES = NO_FRACTIONS + LARGE_DOWNS + OUT_OF_BOUNDS + [(9999, 1)]
NO_MANIES = NO_WHOLES + [-1, -40, 41, 42, 100]


def pair_of(fraction):
    return (fraction.numerator, fraction.denominator)


class SteadyTest(unittest.TestCase):
    def test_whole_periods(self):
        self.assertEqual(steady((0, 1), (1, 1), 5), (0, 1, 2, 3, 4))
        self.assertEqual(steady((3, 1), (10, 1), 4), (3, 13, 23, 33))
        self.assertEqual(steady((0, 1), (10, 1), 40), FULL_ROW)

    def test_how_many(self):
        self.assertEqual(steady((7, 2), (5, 2), 0), ())
        self.assertEqual(steady((7, 2), (5, 2), 1), (3,))
        self.assertEqual(steady((7, 2), (5, 2), 2), (3, 6))
        self.assertEqual(len(steady((7, 2), (5, 2), 40)), 40)
        for many in range(41):
            self.assertEqual(steady((1, 2), (3, 2), many), steady((1, 2), (3, 2), 40)[:many])

    def test_rounded_down(self):
        # 1/2, 2, 7/2, 5, 13/2
        self.assertEqual(steady((1, 2), (3, 2), 5), (0, 2, 3, 5, 6))
        # 0, 7/3, 14/3, 7
        self.assertEqual(steady((0, 1), (7, 3), 4), (0, 2, 4, 7))
        # 98/99, 197/99, 296/99
        self.assertEqual(steady((98, 99), (1, 1), 3), (0, 1, 2))
        # 98/99, 2, 298/99
        self.assertEqual(steady((98, 99), (100, 99), 3), (0, 2, 3))
        # 1/2, 11/6, 19/6, 9/2
        self.assertEqual(steady((1, 2), (4, 3), 4), (0, 1, 3, 4))
        # 2/3, 2/3 + 98/99, ..
        self.assertEqual(steady((2, 3), (98, 99), 3), (0, 1, 2))

    def test_against_fractions(self):
        tried = 0
        phases = ["0", "1/2", "98/99", "7/3", "40", "9998", "989900/99", "1/98"]
        periods = ["1", "3/2", "98/99", "1/99", "100/99", "20/7", "250", "9999", "9999/40", "5/97"]
        for phase in map(Fraction, phases):
            for period in map(Fraction, periods):
                for many in (0, 1, 2, 3, 13, 40):
                    row = tuple([floor(moment) for moment in steady_moments(phase, period, many)])
                    with self.subTest(phase=phase, period=period, many=many):
                        if len(set(row)) == many and max(row, default=0) <= 9999:
                            tried += 1
                            self.assertEqual(steady(pair_of(phase), pair_of(period), many), row)
                            self.assertTrue(is_row(row))
                        else:
                            with self.assertRaises(NoPeriod):
                                steady(pair_of(phase), pair_of(period), many)
        self.assertGreater(tried, 150)

    def test_a_row(self):
        for many in (0, 1, 7):
            told = steady((1, 2), (7, 3), many)
            self.assertIs(type(told), tuple)
            self.assertTrue(is_row(told))

    def test_periods_at_their_limits(self):
        self.assertEqual(steady((0, 1), (9999, 1), 2), (0, 9999))
        self.assertEqual(steady((0, 1), (9999 * 99 - 1, 99), 2), (0, 9998))
        self.assertEqual(steady((98, 99), (1, 99), 2), (0, 1))
        self.assertEqual(steady((0, 1), (1, 99), 1), (0,))

    def test_phases_at_their_limits(self):
        self.assertEqual(steady((0, 1), (1, 1), 1), (0,))
        self.assertEqual(steady((9998, 1), (1, 1), 2), (9998, 9999))
        self.assertEqual(steady((9999 * 99 - 1, 99), (1, 1), 2), (9998, 9999))
        self.assertEqual(steady((9999 * 99 - 1, 99), (1, 99), 2), (9998, 9999))
        self.assertEqual(steady((1, 99), (1, 1), 1), (0,))

    def test_the_last_beat_in_9999_and_in_10000(self):
        self.assertEqual(steady((9999 - 39, 1), (1, 1), 40)[-1], 9999)
        self.assertEqual(steady((0, 1), (3333, 13), 40)[-1], 9999)
        self.assertEqual(steady((98, 99), (9999, 1), 2), (0, 9999))
        self.assertEqual(steady((1, 2), (9999, 2), 3), (0, 5000, 9999))
        for phase, period, many in [
            ((9961, 1), (1, 1), 40), ((1, 1), (9999, 1), 2), ((0, 1), (9999, 1), 3), ((1, 1), (9999, 2), 3),
            ((9999 * 99 - 1, 99), (100, 99), 2), ((9998, 1), (2, 1), 2), ((0, 1), (10000, 39), 40),
        ]:
            with self.subTest(phase=phase, period=period, many=many), self.assertRaises(NoPeriod):
                steady(phase, period, many)

    def test_two_in_one_tick(self):
        for phase, period, many in [
            ((0, 1), (1, 2), 2), ((0, 1), (98, 99), 2), ((0, 1), (1, 99), 40), ((1, 2), (3, 4), 4), ((7, 2), (1, 3), 2),
        ]:
            with self.subTest(phase=phase, period=period, many=many), self.assertRaises(NoPeriod):
                steady(phase, period, many)
        self.assertEqual(steady((1, 2), (1, 2), 2), (0, 1))
        self.assertEqual(steady((1, 2), (3, 4), 3), (0, 1, 2))
        self.assertEqual(steady((98, 99), (98, 99), 40), tuple(range(40)))

    def test_no_phase(self):
        for phase in NO_PHASES:
            for many in (0, 1, 3):
                with self.subTest(phase=phase, many=many), self.assertRaises(NoPeriod):
                    steady(phase, (3, 2), many)

    def test_no_period(self):
        for period in NO_PERIODS:
            for many in (0, 1, 3):
                with self.subTest(period=period, many=many), self.assertRaises(NoPeriod):
                    steady((1, 2), period, many)

    def test_no_many(self):
        for many in NO_MANIES:
            with self.subTest(many=many), self.assertRaises(NoPeriod):
                steady((1, 2), (3, 2), many)

    def test_nothing_of_it(self):
        for thing in (None, True, -1, "1", [], (), [1, 2], (2, 2)):
            with self.subTest(thing=thing), self.assertRaises(NoPeriod):
                steady(thing, thing, thing)

    def test_what_is_refused_is_not_changed(self):
        for thing in ([3, 1], [[3], [1]], ([3], 1)):
            before = copy.deepcopy(thing)
            for arguments in [(thing, (3, 2), 2), ((1, 2), thing, 2), ((1, 2), (3, 2), thing)]:
                with self.assertRaises(NoPeriod):
                    steady(*arguments)
            self.assertEqual(thing, before)


class CanCountTest(unittest.TestCase):
    def test_whole_periods(self):
        self.assertEqual(can_count((1, 1), 1), [1])
        self.assertEqual(can_count((1, 1), 9999), [9999])
        self.assertEqual(can_count((5, 1), 10), [2])
        self.assertEqual(can_count((5, 1), 11), [2, 3])
        self.assertEqual(can_count((5, 1), 14), [2, 3])
        self.assertEqual(can_count((5, 1), 9), [1, 2])
        self.assertEqual(can_count((9999, 1), 9999), [1])

    def test_others(self):
        self.assertEqual(can_count((5, 2), 10), [4])
        self.assertEqual(can_count((5, 2), 11), [4, 5])
        self.assertEqual(can_count((7, 3), 7), [3])
        self.assertEqual(can_count((100, 99), 99), [98, 99])

    def test_below_1(self):
        self.assertEqual(can_count((1, 2), 3), [6])
        self.assertEqual(can_count((1, 99), 9999), [989901])
        self.assertEqual(can_count((2, 3), 1), [1, 2])
        self.assertEqual(can_count((98, 99), 98), [99])
        self.assertEqual(can_count((98, 99), 97), [97, 98])

    def test_longer_than_the_gate(self):
        self.assertEqual(can_count((10, 1), 3), [0, 1])
        self.assertEqual(can_count((10, 1), 9), [0, 1])
        self.assertEqual(can_count((9999, 1), 1), [0, 1])
        self.assertEqual(can_count((9999, 1), 9998), [0, 1])
        self.assertEqual(can_count((3, 2), 1), [0, 1])

    def test_with_all_phases(self):
        for period in map(Fraction, ["1", "2", "5", "3/2", "7/3", "1/2", "2/3", "5/7", "12/5", "30", "25/2", "1/4"]):
            for length in (1, 2, 3, 4, 5, 7, 10, 12, 25):
                seen = set()
                down = 6 * period.denominator
                for up in range(floor(period * down) + 1):
                    moments = steady_moments(Fraction(up, down) - 2 * period, period, 4 + floor(length / period))
                    seen.add(len([moment for moment in moments if 0 <= moment < length]))
                with self.subTest(period=period, length=length):
                    self.assertEqual(can_count(pair_of(period), length), sorted(seen))

    def test_no_length(self):
        for length in NO_LENGTHS:
            with self.subTest(length=length), self.assertRaises(NoGate):
                can_count((3, 2), length)

    def test_no_period(self):
        for period in NO_PERIODS:
            for length in (1, 10, 9999):
                with self.subTest(period=period, length=length), self.assertRaises(NoPeriod):
                    can_count(period, length)

    def test_no_gate_comes_ahead_of_no_period(self):
        for period in (None, True, 5, [3, 2], (4, 2), (0, 1), (1, 100), "3", (3, 0), (10000, 1), ()):
            for length in (0, -1, 10000, None, True, "1", [], ()):
                with self.subTest(period=period, length=length), self.assertRaises(NoGate):
                    can_count(period, length)

    def test_a_told_list_may_be_changed(self):
        for period in [(5, 1), (3, 1)]:
            first = can_count(period, 10)
            self.assertIs(type(first), list)
            before = list(first)
            first.append(77)
            first[0] = -5
            with self.subTest(period=period):
                self.assertEqual(can_count(period, 10), before)


class SameAgainTest(unittest.TestCase):
    def test_asked_the_same_again(self):
        def told_of_all():
            rows = [steady((1, 2), (7, 3), many) for many in range(41)]
            return rows, [can_count((7, 3), length) for length in range(1, 50)]

        self.assertEqual(told_of_all(), told_of_all())


if __name__ == "__main__":
    unittest.main()
