"""[1.1] rows and gates, [1.2] counted and gaps, and what [0.3] says of them."""

import copy
import unittest

from gatebeats.errors import NoGate, NoRow
from gatebeats.rates import by_count, by_time, sharper
from gatebeats.rows import counted, gaps, is_row
from tests.helper import FULL_ROW, NO_LENGTHS, NO_ROWS, NO_STARTS, ROWS

GATED = [counted, by_count, by_time, sharper]


class IsRowTest(unittest.TestCase):
    def test_rows(self):
        for row in ROWS:
            with self.subTest(row=row):
                self.assertIs(is_row(row), True)

    def test_other_things(self):
        for thing in NO_ROWS:
            with self.subTest(thing=thing):
                self.assertIs(is_row(thing), False)

    def test_at_most_40_beats(self):
        self.assertIs(is_row(()), True)
        self.assertIs(is_row((7,)), True)
        self.assertIs(is_row(tuple(range(40))), True)
        self.assertIs(is_row(tuple(range(41))), False)

    def test_beats_from_0_to_9999(self):
        self.assertIs(is_row((0, 9999)), True)
        self.assertIs(is_row((-1, 9999)), False)
        self.assertIs(is_row((0, 10000)), False)

    def test_truths_are_no_beats_though_they_rise(self):
        self.assertIs(is_row((False, True)), False)
        self.assertIs(is_row((False, 1, 2)), False)
        self.assertIs(is_row((0, True, 2)), False)

    def test_a_beat_twice(self):
        self.assertIs(is_row((3, 3)), False)
        self.assertIs(is_row((3, 4, 4, 5)), False)


class RefusalTest(unittest.TestCase):
    def test_no_row_in_a_good_gate(self):
        for told in GATED:
            for thing in NO_ROWS:
                with self.subTest(told=told.__name__, thing=thing), self.assertRaises(NoRow):
                    told(thing, 0, 10)

    def test_no_row_of_gaps(self):
        for thing in NO_ROWS:
            with self.subTest(thing=thing), self.assertRaises(NoRow):
                gaps(thing)

    def test_gates_at_the_limits(self):
        for told in GATED:
            for start in (0, 9999):
                for length in (1, 9999):
                    with self.subTest(told=told.__name__, start=start, length=length):
                        told((0, 2, 9999), start, length)

    def test_no_gate_of_starts(self):
        for told in GATED:
            for start in NO_STARTS:
                with self.subTest(told=told.__name__, start=start), self.assertRaises(NoGate):
                    told((1, 2, 5), start, 10)

    def test_no_gate_of_lengths(self):
        for told in GATED:
            for length in NO_LENGTHS:
                with self.subTest(told=told.__name__, length=length), self.assertRaises(NoGate):
                    told((1, 2, 5), 0, length)

    def test_no_gate_of_an_empty_row_too(self):
        for told in GATED:
            for start, length in [(-1, 1), (10000, 1), (0, 0), (0, 10000), (None, 1), (0, True), (-1, 0)]:
                with self.subTest(told=told.__name__, start=start, length=length), self.assertRaises(NoGate):
                    told((), start, length)

    def test_no_row_comes_ahead_of_no_gate(self):
        for told in GATED:
            for thing in (None, [1, 2], (2, 1), (True,), tuple(range(41)), "|"):
                for start, length in [(-1, 10), (0, 0), (10000, 10000), (None, None), (True, True), ([], ())]:
                    with self.subTest(told=told.__name__, thing=thing, start=start, length=length):
                        with self.assertRaises(NoRow):
                            told(thing, start, length)

    def test_what_is_refused_is_not_changed(self):
        for told in GATED:
            for thing in ([3, 1, 2], [[1], [2, [3]]], ([1, 2], 3)):
                before = copy.deepcopy(thing)
                with self.subTest(told=told.__name__, thing=thing):
                    with self.assertRaises(NoRow):
                        told(thing, 0, 10)
                    with self.assertRaises(NoGate):
                        told((1, 2), thing, 10)
                    with self.assertRaises(NoGate):
                        told((1, 2), 0, thing)
                    self.assertEqual(thing, before)


class CountedTest(unittest.TestCase):
    def test_all_some_and_none(self):
        row = (3, 5, 6, 12, 13, 40)
        self.assertEqual(counted(row, 0, 41), 6)
        self.assertEqual(counted(row, 3, 38), 6)
        self.assertEqual(counted(row, 5, 8), 3)
        self.assertEqual(counted(row, 4, 3), 2)
        self.assertEqual(counted(row, 14, 26), 0)
        self.assertEqual(counted(row, 41, 9999), 0)
        self.assertEqual(counted(row, 0, 3), 0)

    def test_rows_of_no_beats_and_of_most(self):
        self.assertEqual(counted((), 0, 9999), 0)
        self.assertEqual(counted(FULL_ROW, 0, 9999), 40)
        self.assertEqual(counted(FULL_ROW, 10, 380), 38)

    def test_first_and_last_tick_and_those_beside(self):
        for start, length in [(1, 1), (1, 5), (10, 100), (5000, 4999)]:
            with self.subTest(start=start, length=length):
                self.assertEqual(counted((start - 1,), start, length), 0)
                self.assertEqual(counted((start,), start, length), 1)
                self.assertEqual(counted((start + length - 1,), start, length), 1)
                self.assertEqual(counted((start + length,), start, length), 0)

    def test_gates_at_the_limits(self):
        self.assertEqual(counted((0, 1), 0, 1), 1)
        self.assertEqual(counted((0, 9998, 9999), 0, 9999), 2)
        self.assertEqual(counted((0, 9998, 9999), 9999, 1), 1)
        self.assertEqual(counted((0, 9998, 9999), 9999, 9999), 1)
        self.assertEqual(counted((0, 1, 9999), 1, 9999), 2)

    def test_each_gate_against_each_tick(self):
        for row in ROWS:
            for start in (0, 1, 4, 39, 9960, 9999):
                for length in (1, 2, 17, 100, 9999):
                    many = len([tick for tick in range(start, start + length) if tick in row])
                    with self.subTest(row=row, start=start, length=length):
                        self.assertEqual(counted(row, start, length), many)


class GapsTest(unittest.TestCase):
    def test_rows_of_few_beats(self):
        self.assertEqual(gaps(()), [])
        self.assertEqual(gaps((0,)), [])
        self.assertEqual(gaps((9999,)), [])
        self.assertEqual(gaps((4, 7)), [3])
        self.assertEqual(gaps((0, 9999)), [9999])

    def test_rows_of_more_beats(self):
        self.assertEqual(gaps((1, 4, 9, 16, 25)), [3, 5, 7, 9])
        self.assertEqual(gaps((3, 5, 6, 12)), [2, 1, 6])
        self.assertEqual(gaps(FULL_ROW), [10] * 39)

    def test_a_list(self):
        for row in ROWS:
            self.assertIsInstance(gaps(row), list)

    def test_a_told_list_may_be_changed(self):
        for row in [(), (7,), (1, 4, 9)]:
            first = gaps(row)
            before = list(first)
            first.append(77)
            first[0] = -5
            with self.subTest(row=row):
                self.assertEqual(gaps(row), before)
                self.assertIsNot(gaps(row), gaps(row))


class SameAgainTest(unittest.TestCase):
    def test_asked_the_same_again(self):
        def told_of_all():
            return [
                (is_row(row), gaps(row), [counted(row, start, length) for start in (0, 5, 9999) for length in (1, 50)])
                for row in ROWS
            ]

        first = told_of_all()
        with self.assertRaises(NoRow):
            gaps([1])
        with self.assertRaises(NoGate):
            counted((), -1, 1)
        self.assertEqual(told_of_all(), first)


if __name__ == "__main__":
    unittest.main()
