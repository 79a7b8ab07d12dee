"""[5.2] bounds and can_be_steady, [5.3] simplest and phase_for, and what [0.3] says of them."""

import copy
import unittest
from fractions import Fraction
from itertools import combinations
from math import floor, gcd

from gatebeats.errors import NoPeriod, NoRow
from gatebeats.periods import bounds, can_be_steady, phase_for, simplest, steady
from tests.helper import FULL_ROW, NO_ROWS, ROWS, makes, span_of_phases, steady_moments

OF_ROWS = [bounds, can_be_steady, simplest, phase_for]


def fractions_up_to(most_down, least, most):
    """All fractions from least to most, whose downs are no more than most_down."""
    downs = range(1, most_down + 1)
    found = {Fraction(up, down) for down in downs for up in range(floor(least * down), most * down + 1)}
    return sorted([each for each in found if least <= each <= most])


def small_rows():
    for many in range(2, 9):
        yield from combinations(range(8), many)


def many_rows():
    yield from small_rows()
    yield from ROWS
    for up in range(18, 200):
        if up % 17 != 0:
            yield steady((1, 3), (up, 17), 11)


class BoundsTest(unittest.TestCase):
    def test_rows_of_0_and_1_beats(self):
        for row in [(), (0,), (7,), (9999,)]:
            with self.subTest(row=row):
                self.assertIsNone(bounds(row))
                self.assertIs(can_be_steady(row), True)

    def test_rows_of_2_beats(self):
        self.assertEqual(bounds((3, 4)), ((0, 1), (2, 1)))
        self.assertEqual(bounds((9998, 9999)), ((0, 1), (2, 1)))
        self.assertEqual(bounds((0, 2)), ((1, 1), (3, 1)))
        self.assertEqual(bounds((4, 7)), ((2, 1), (4, 1)))
        self.assertEqual(bounds((0, 9999)), ((9998, 1), (10000, 1)))

    def test_rows_that_can_be_steady(self):
        # The gaps tell 0 to 2 and 1 to 3, both together 2/2 to 4/2.
        self.assertEqual(bounds((0, 1, 3)), ((1, 1), (2, 1)))
        self.assertEqual(bounds((0, 1, 2)), ((1, 2), (3, 2)))
        self.assertEqual(bounds((0, 10, 20, 30)), ((29, 3), (31, 3)))
        self.assertEqual(bounds((0, 2, 3, 5, 6)), ((4, 3), (5, 3)))
        self.assertEqual(bounds(FULL_ROW), ((389, 39), (391, 39)))

    def test_rows_that_can_not(self):
        for row in [(1, 4, 9, 16, 25), (0, 1, 4), (0, 5, 6), (0, 1, 2, 5), (0, 9998, 9999), (0, 2, 6)]:
            with self.subTest(row=row):
                self.assertIsNone(bounds(row))
                self.assertIs(can_be_steady(row), False)

    def test_bounds_that_meet_leave_nothing_between(self):
        # 0 to 2 by the first gap, 2 to 4 by the second.
        self.assertIsNone(bounds((0, 1, 4)))
        self.assertIs(can_be_steady((0, 1, 4)), False)

    def test_a_tuple_of_two_fractions_in_lowest_terms(self):
        for row in many_rows():
            pair = bounds(row)
            if pair is not None:
                with self.subTest(row=row):
                    self.assertIs(type(pair), tuple)
                    self.assertEqual(len(pair), 2)
                    for each in pair:
                        self.assertIs(type(each), tuple)
                        self.assertEqual([type(part) for part in each], [int, int])
                        self.assertGreater(each[1], 0)
                        self.assertEqual(gcd(*each), 1)
                    self.assertLess(Fraction(*pair[0]), Fraction(*pair[1]))

    def test_all_periods_between_and_none_else(self):
        periods = fractions_up_to(18, Fraction(0), 9)
        for row in small_rows():
            pair = bounds(row)
            between = []
            if pair is not None:
                between = [each for each in periods if Fraction(*pair[0]) < each < Fraction(*pair[1])]
                self.assertNotEqual(between, [])
            with self.subTest(row=row):
                self.assertEqual(between, [each for each in periods if makes(row, each)])

    def test_long_rows_just_within_and_without(self):
        near = Fraction(1, 10 ** 9)
        for phase in [(0, 1), (1, 2), (98, 99), (70, 9)]:
            for period in [(1, 1), (98, 99), (100, 99), (20, 7), (249, 1), (24601, 99), (577, 41)]:
                try:
                    row = steady(phase, period, 40)
                except NoPeriod:
                    continue
                low, high = [Fraction(*each) for each in bounds(row)]
                with self.subTest(row=row):
                    self.assertTrue(makes(row, low + near) and makes(row, high - near) and makes(row, (low + high) / 2))
                    self.assertFalse(makes(row, low) or makes(row, high))

    def test_the_rows_that_steady_tells_and_no_others(self):
        made = set()
        for period in fractions_up_to(14, Fraction(1, 14), 8):
            down = period.denominator
            for up in range(8 * down):
                ticks = []
                moment = Fraction(up, down)
                while moment < 8 and len(ticks) < 9:
                    ticks.append(floor(moment))
                    if len(set(ticks)) < len(ticks):
                        break
                    made.add(tuple(ticks))
                    moment += period
        for row in small_rows():
            with self.subTest(row=row):
                self.assertIs(can_be_steady(row), row in made)

    def test_can_be_steady_is_whether_bounds_is_not_none(self):
        for row in many_rows():
            with self.subTest(row=row):
                self.assertIs(can_be_steady(row), bounds(row) is not None or len(row) < 2)


class SimplestTest(unittest.TestCase):
    def test_none_where_bounds_is_none(self):
        for row in [(), (5,), (9999,), (1, 4, 9, 16, 25), (0, 1, 4), (0, 1, 2, 5)]:
            with self.subTest(row=row):
                self.assertIsNone(simplest(row))
                self.assertIsNone(phase_for(row))

    def test_the_least_down(self):
        self.assertEqual(simplest((3, 4)), (1, 1))
        self.assertEqual(simplest((4, 7)), (3, 1))
        self.assertEqual(simplest((0, 9999)), (9999, 1))
        self.assertEqual(simplest((0, 1, 3)), (3, 2))
        self.assertEqual(simplest((0, 10, 20, 30)), (10, 1))
        self.assertEqual(simplest((0, 2, 3, 5, 6)), (3, 2))
        self.assertEqual(simplest(FULL_ROW), (10, 1))

    def test_of_all_periods_between(self):
        downs = set()
        for row in many_rows():
            pair = bounds(row)
            if pair is not None:
                low, high = Fraction(*pair[0]), Fraction(*pair[1])
                found = [
                    (down, up) for down in range(1, 100) for up in range(floor(low * down), floor(high * down) + 2)
                    if gcd(up, down) == 1 and low < Fraction(up, down) < high
                ]
                down, up = min(found)
                downs.add(down)
                with self.subTest(row=row):
                    self.assertEqual(simplest(row), (up, down))
        self.assertGreater(len(downs), 6)


class PhaseForTest(unittest.TestCase):
    def test_phases(self):
        self.assertEqual(phase_for((3, 4)), (3, 1))
        self.assertEqual(phase_for((0, 9999)), (0, 1))
        self.assertEqual(phase_for((0, 10, 20, 30)), (0, 1))
        # 3/2 apart: 0, 3/2 and 3 would do as they are.
        self.assertEqual(phase_for((0, 1, 3)), (0, 1))
        # 3/2 apart from 0 on were 0, 1; half a tick later 2 is reached.
        self.assertEqual(phase_for((0, 2, 3, 5, 6)), (1, 2))
        self.assertEqual(phase_for((7, 9, 10, 12, 13)), (15, 2))

    def test_the_least_one(self):
        phases = set()
        for row in many_rows():
            if bounds(row) is not None:
                period = Fraction(*simplest(row))
                told = phase_for(row)
                phases.add(Fraction(*told) - row[0])
                with self.subTest(row=row):
                    self.assertEqual(Fraction(*told), span_of_phases(row, period)[0])
                    self.assertIs(type(told), tuple)
                    self.assertEqual([type(part) for part in told], [int, int])
                    self.assertGreaterEqual(told[0], 0)
                    self.assertGreater(told[1], 0)
                    self.assertEqual(gcd(*told), 1)
        self.assertGreater(len(phases), 10)

    def test_no_phase_ahead_of_it(self):
        for row in small_rows():
            if bounds(row) is not None:
                period, least = Fraction(*simplest(row)), Fraction(*phase_for(row))
                down = 12 * period.denominator
                with self.subTest(row=row):
                    for up in range(floor(least * down)):
                        moments = steady_moments(Fraction(up, down), period, len(row))
                        self.assertNotEqual(tuple([floor(moment) for moment in moments]), row)


class RefusalTest(unittest.TestCase):
    def test_no_row(self):
        for told in OF_ROWS:
            for thing in NO_ROWS:
                with self.subTest(told=told.__name__, thing=thing), self.assertRaises(NoRow):
                    told(thing)

    def test_what_is_refused_is_not_changed(self):
        for told in OF_ROWS:
            for thing in ([3, 1, 2], [[1], [2, [3]]], ([1, 2], 3)):
                before = copy.deepcopy(thing)
                with self.assertRaises(NoRow):
                    told(thing)
                self.assertEqual(thing, before)


class SameAgainTest(unittest.TestCase):
    def test_asked_the_same_again(self):
        def told_of_all():
            return [[told(row) for told in OF_ROWS] for row in ROWS]

        self.assertEqual(told_of_all(), told_of_all())


if __name__ == "__main__":
    unittest.main()
