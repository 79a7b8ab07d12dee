"""[8.1] longest_steady, steady_parts and strays, and what [0.3] says of them."""

import copy
import unittest
from itertools import combinations

from gatebeats.errors import NoRow
from gatebeats.periods import can_be_steady, steady
from gatebeats.stretches import longest_steady, steady_parts, strays
from tests.helper import FULL_ROW, NO_ROWS, ROWS, steady_by_search, steady_rows

OF_ROWS = [longest_steady, steady_parts, strays]

# Periods 10 and 3, and 7, one behind the other.
TWO_PERIODS = (0, 10, 20, 30, 40, 43, 46, 49, 52)
THREE_PERIODS = TWO_PERIODS + (59, 66, 73, 80, 87, 94)

# 40 beats, of periods 5 and 100.
LONG_ROW = tuple(range(0, 100, 5)) + tuple(range(200, 2200, 100))

# A row of period 10, and others with its first, a middle and its last beat a tick off.
TENS = tuple(range(100, 200, 10))
FIRST_LATER, FIRST_SOONER = (101,) + TENS[1:], (99,) + TENS[1:]
MIDDLE_LATER, MIDDLE_SOONER = TENS[:4] + (141,) + TENS[5:], TENS[:4] + (139,) + TENS[5:]
LAST_LATER, LAST_SOONER = TENS[:-1] + (191,), TENS[:-1] + (189,)


def small_rows():
    for many in range(8):
        yield from combinations(range(11), many)


def stretches(row):
    """All stretches of a row as (first, many), the longest ones ahead, of such the first ones ahead."""
    for many in range(len(row), 0, -1):
        for first in range(len(row) - many + 1):
            yield first, many


def partings(many):
    """All ways to part so many beats, as lists of how many are in each part."""
    if many == 0:
        yield []
    for first in range(1, many + 1):
        for others in partings(many - first):
            yield [first] + others


def parts_of(row, parts):
    at = 0
    for many in parts:
        yield row[at:at + many]
        at += many


def strays_by_search(row):
    if steady_by_search(row):
        return []
    return [place for place in range(len(row)) if steady_by_search(row[:place] + row[place + 1:])]


class LongestSteadyTest(unittest.TestCase):
    def test_rows_of_0_to_3_beats(self):
        self.assertIsNone(longest_steady(()))
        for tick in (0, 5, 9999):
            self.assertEqual(longest_steady((tick,)), (0, 1))
        for row in [(0, 1), (3, 9), (0, 9999), (9998, 9999)]:
            self.assertEqual(longest_steady(row), (0, 2))
        self.assertEqual(longest_steady((0, 1, 2)), (0, 3))
        self.assertEqual(longest_steady((0, 10, 21)), (0, 3))
        self.assertEqual(longest_steady((0, 10, 22)), (0, 2))
        self.assertEqual(longest_steady((0, 1, 9999)), (0, 2))

    def test_rows_that_can_be_steady(self):
        for row in [FULL_ROW, TENS, tuple(range(40)), steady((1, 3), (22, 7), 40), steady((0, 1), (251, 1), 40)]:
            self.assertEqual(longest_steady(row), (0, len(row)))

    def test_several_periods(self):
        self.assertEqual(longest_steady(TWO_PERIODS), (0, 5))
        self.assertEqual(longest_steady(THREE_PERIODS), (8, 7))
        self.assertEqual(longest_steady((0, 100) + TENS[1:]), (1, 10))
        self.assertEqual(longest_steady(LONG_ROW), (0, 20))
        self.assertEqual(longest_steady(LONG_ROW[1:]), (19, 20))
        self.assertEqual(longest_steady(tuple(range(20)) + tuple(range(50, 70))), (0, 20))

    def test_of_several_as_long_the_first_one(self):
        self.assertEqual(longest_steady((0, 10, 30)), (0, 2))
        self.assertEqual(longest_steady((0, 10, 20, 23, 26)), (0, 3))
        self.assertEqual(longest_steady((0, 1, 10, 20, 30, 33, 36, 39)), (1, 4))
        self.assertEqual(longest_steady((0, 50, 60, 70, 73, 76)), (1, 3))

    def test_a_beat_a_tick_off(self):
        # The gap beside such a beat at an end is near enough to the others.
        for row in (FIRST_LATER, FIRST_SOONER, LAST_LATER, LAST_SOONER):
            self.assertEqual(longest_steady(row), (0, 10))
        self.assertEqual(longest_steady(MIDDLE_LATER), (4, 6))
        self.assertEqual(longest_steady(MIDDLE_SOONER), (4, 6))

    def test_against_all_stretches(self):
        for row in small_rows():
            due = [each for each in stretches(row) if steady_by_search(row[each[0]:each[0] + each[1]])]
            with self.subTest(row=row):
                self.assertEqual(longest_steady(row), due[0] if due else None)

    def test_long_rows_against_all_stretches(self):
        for row in [LONG_ROW, THREE_PERIODS, MIDDLE_LATER, MIDDLE_SOONER, FULL_ROW[:20] + tuple(range(403, 600, 10))]:
            due = [each for each in stretches(row) if can_be_steady(row[each[0]:each[0] + each[1]])]
            with self.subTest(row=row):
                self.assertEqual(longest_steady(row), due[0])


class SteadyPartsTest(unittest.TestCase):
    def test_rows_of_0_to_3_beats(self):
        self.assertEqual(steady_parts(()), [])
        for tick in (0, 5, 9999):
            self.assertEqual(steady_parts((tick,)), [1])
        for row in [(0, 1), (3, 9), (0, 9999), (9998, 9999)]:
            self.assertEqual(steady_parts(row), [2])
        self.assertEqual(steady_parts((0, 1, 2)), [3])
        self.assertEqual(steady_parts((0, 10, 21)), [3])
        self.assertEqual(steady_parts((0, 10, 22)), [2, 1])
        self.assertEqual(steady_parts((0, 1, 9999)), [2, 1])

    def test_rows_that_can_be_steady(self):
        for row in [FULL_ROW, TENS, tuple(range(40)), steady((1, 3), (22, 7), 40), steady((0, 1), (251, 1), 40)]:
            self.assertEqual(steady_parts(row), [len(row)])

    def test_several_periods(self):
        self.assertEqual(steady_parts(TWO_PERIODS), [5, 4])
        self.assertEqual(steady_parts(THREE_PERIODS), [5, 4, 6])
        self.assertEqual(steady_parts(LONG_ROW), [20, 20])
        self.assertEqual(steady_parts((0, 100) + TENS[1:]), [2, 9])

    def test_a_beat_a_tick_off(self):
        for row in (FIRST_LATER, FIRST_SOONER, LAST_LATER, LAST_SOONER):
            self.assertEqual(steady_parts(row), [10])
        self.assertEqual(steady_parts(MIDDLE_LATER), [5, 5])
        self.assertEqual(steady_parts(MIDDLE_SOONER), [5, 5])

    def test_as_many_parts_as_can_be(self):
        # No three beats one behind the other can be steady.
        row = tuple([tick * tick * 7 for tick in range(37)])
        self.assertEqual(steady_parts(row), [2] * 18 + [1])

    def test_against_all_partings(self):
        for row in small_rows():
            good = [parts for parts in partings(len(row)) if all(map(steady_by_search, parts_of(row, parts)))]
            fewest = min([len(parts) for parts in good])
            with self.subTest(row=row):
                self.assertEqual(steady_parts(row), max([parts for parts in good if len(parts) == fewest]))

    def test_each_goes_on_as_far_as_it_can(self):
        for row in ROWS + [TWO_PERIODS, THREE_PERIODS, LONG_ROW, MIDDLE_LATER, MIDDLE_SOONER]:
            told = steady_parts(row)
            at = 0
            with self.subTest(row=row):
                self.assertEqual(sum(told), len(row))
                for many in told:
                    self.assertIs(can_be_steady(row[at:at + many]), True)
                    if at + many < len(row):
                        self.assertIs(can_be_steady(row[at:at + many + 1]), False)
                    at += many


class StraysTest(unittest.TestCase):
    def test_rows_of_0_to_3_beats(self):
        for row in [(), (0,), (9999,), (0, 1), (0, 9999), (0, 1, 2), (0, 10, 21)]:
            self.assertEqual(strays(row), [])
        self.assertEqual(strays((0, 10, 22)), [0, 1, 2])
        self.assertEqual(strays((0, 1, 9999)), [0, 1, 2])

    def test_rows_that_can_be_steady(self):
        for period, row in steady_rows():
            self.assertEqual(strays(row), [])

    def test_one(self):
        self.assertEqual(strays((0, 10, 20, 25, 30, 40)), [3])
        self.assertEqual(strays((0, 10, 20, 21, 30, 40)), [3])
        self.assertEqual(strays((0, 3, 13, 23, 33)), [0])
        self.assertEqual(strays((0, 10, 20, 30, 47)), [4])
        self.assertEqual(strays(FULL_ROW[:-1] + (389,)), [])
        self.assertEqual(strays(FULL_ROW[:20] + (195,) + FULL_ROW[20:-1]), [20])
        self.assertEqual(strays((5,) + FULL_ROW[1:]), [0])

    def test_several(self):
        self.assertEqual(strays((0, 10, 20, 30, 31, 41, 51)), [3, 4])
        self.assertEqual(strays((0, 1, 10, 20, 30)), [0, 1])
        self.assertEqual(strays((0, 10, 20, 29, 30)), [3, 4])

    def test_none_whichever_is_left_out(self):
        for row in (TWO_PERIODS, THREE_PERIODS, LONG_ROW, MIDDLE_LATER, MIDDLE_SOONER, (0, 1, 10, 11, 20, 21)):
            with self.subTest(row=row):
                self.assertIs(can_be_steady(row), False)
                self.assertEqual(strays(row), [])

    def test_a_beat_a_tick_off(self):
        for row in (FIRST_LATER, FIRST_SOONER, LAST_LATER, LAST_SOONER):
            self.assertEqual(strays(row), [])
        self.assertEqual(strays((100, 110, 121, 130)), [3])
        self.assertEqual(strays((100, 109, 120, 130)), [0])

    def test_against_each_left_out(self):
        for row in small_rows():
            with self.subTest(row=row):
                self.assertEqual(strays(row), strays_by_search(row))


class ToldTest(unittest.TestCase):
    def test_kinds(self):
        for row in ROWS + [TWO_PERIODS, LONG_ROW, (0, 10, 22)]:
            with self.subTest(row=row):
                pair = longest_steady(row)
                if len(row) > 0:
                    self.assertIs(type(pair), tuple)
                    self.assertEqual([type(part) for part in pair], [int, int])
                for told in (steady_parts(row), strays(row)):
                    self.assertIs(type(told), list)
                    self.assertEqual({type(part) for part in told} - {int}, set())

    def test_a_told_list_may_be_changed(self):
        for told in (steady_parts, strays):
            for row in [(), (5,), (0, 10, 22), TENS, TWO_PERIODS, (0, 10, 20, 25, 30, 40)]:
                first = told(row)
                before = list(first)
                first.append(77)
                first[0] = -5
                with self.subTest(told=told.__name__, row=row):
                    self.assertEqual(told(row), before)

    def test_asked_the_same_again(self):
        def told_of_all():
            return [[told(row) for told in OF_ROWS] for row in ROWS + [TWO_PERIODS, THREE_PERIODS, LONG_ROW]]

        self.assertEqual(told_of_all(), told_of_all())


class RefusalTest(unittest.TestCase):
    def test_no_row(self):
        for told in OF_ROWS:
            for thing in NO_ROWS:
                before = copy.deepcopy(thing)
                with self.subTest(told=told.__name__, thing=thing):
                    with self.assertRaises(NoRow):
                        told(thing)
                    self.assertEqual(thing, before)


if __name__ == "__main__":
    unittest.main()
