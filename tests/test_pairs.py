"""[4.1] to_next, longest_wait and between, and what [0.3] says of them."""

import copy
import unittest

from gatebeats.errors import NoRow
from gatebeats.pairs import between, longest_wait, to_next
from tests.helper import FULL_ROW, NO_ROWS, ROWS

OF_TWO = [to_next, longest_wait, between]
LISTED = [to_next, between]

TWO_ROWS = [(one, other) for one in ROWS for other in ROWS]


def waits_by_ticks(one, other):
    """What to_next has to tell, found by walking from tick to tick."""
    told = []
    for beat in one:
        ticks = [tick for tick in range(beat, 10000) if tick in other]
        told.append(ticks[0] - beat if ticks else None)
    return told


class ToNextTest(unittest.TestCase):
    def test_rows_without_beats(self):
        self.assertEqual(to_next((), ()), [])
        self.assertEqual(to_next((), (5,)), [])
        self.assertEqual(to_next((), FULL_ROW), [])
        self.assertEqual(to_next((5,), ()), [None])
        self.assertEqual(to_next((1, 5, 9999), ()), [None, None, None])

    def test_one_beat_each(self):
        self.assertEqual(to_next((5,), (5,)), [0])
        self.assertEqual(to_next((5,), (6,)), [1])
        self.assertEqual(to_next((5,), (4,)), [None])
        self.assertEqual(to_next((0,), (9999,)), [9999])
        self.assertEqual(to_next((9999,), (0,)), [None])
        self.assertEqual(to_next((9999,), (9999,)), [0])

    def test_more_beats(self):
        self.assertEqual(to_next((1, 4, 9, 16, 25), (4, 10, 16, 20)), [3, 0, 1, 0, None])
        self.assertEqual(to_next((4, 10, 16, 20), (1, 4, 9, 16, 25)), [0, 6, 0, 5])
        self.assertEqual(to_next((1, 2, 3), (7, 8)), [6, 5, 4])
        self.assertEqual(to_next((7, 8), (1, 2, 3)), [None, None])
        self.assertEqual(to_next((5,), (1, 4, 7, 9)), [2])

    def test_the_same_row(self):
        for row in ROWS:
            self.assertEqual(to_next(row, row), [0] * len(row))

    def test_against_each_tick(self):
        for one, other in TWO_ROWS:
            with self.subTest(one=one, other=other):
                self.assertEqual(to_next(one[:6], other[-6:]), waits_by_ticks(one[:6], other[-6:]))


class LongestWaitTest(unittest.TestCase):
    def test_none_without_any(self):
        self.assertIsNone(longest_wait((), ()))
        self.assertIsNone(longest_wait((), (5,)))
        self.assertIsNone(longest_wait((5,), ()))
        self.assertIsNone(longest_wait((5,), (4,)))
        self.assertIsNone(longest_wait((7, 8), (1, 2, 3)))

    def test_in_the_same_tick(self):
        self.assertEqual(longest_wait((5,), (5,)), 0)
        self.assertEqual(longest_wait((5, 9), (5,)), 0)
        self.assertEqual(longest_wait(FULL_ROW, FULL_ROW), 0)

    def test_greatest(self):
        self.assertEqual(longest_wait((1, 4, 9, 16, 25), (4, 10, 16, 20)), 3)
        self.assertEqual(longest_wait((4, 10, 16, 20), (1, 4, 9, 16, 25)), 6)
        self.assertEqual(longest_wait((1, 2, 3), (7, 8)), 6)
        self.assertEqual(longest_wait((0,), (9999,)), 9999)

    def test_many_rows(self):
        for one, other in TWO_ROWS:
            waits = [wait for wait in to_next(one, other) if wait is not None]
            with self.subTest(one=one, other=other):
                self.assertEqual(longest_wait(one, other), sorted(waits)[-1] if waits else None)


class BetweenTest(unittest.TestCase):
    def test_the_one_row_with_0_and_1_beats(self):
        for other in ROWS:
            self.assertEqual(between((), other), [])
            self.assertEqual(between((5,), other), [])
            self.assertEqual(between((9999,), other), [])

    def test_the_other_row_with_0_and_1_beats(self):
        self.assertEqual(between((5, 9), ()), [0])
        self.assertEqual(between((1, 5, 9), ()), [0, 0])
        for tick, due in [(4, [0, 0]), (5, [1, 0]), (6, [1, 0]), (8, [1, 0]), (9, [0, 1]), (11, [0, 1]), (12, [0, 0])]:
            with self.subTest(tick=tick):
                self.assertEqual(between((5, 9, 12), (tick,)), due)

    def test_from_its_tick_on_and_ahead_of_the_next(self):
        self.assertEqual(between((5, 9), (5,)), [1])
        self.assertEqual(between((5, 9), (9,)), [0])
        self.assertEqual(between((5, 9), (5, 9)), [1])
        self.assertEqual(between((5, 9), (4, 5, 8, 9, 10)), [2])
        self.assertEqual(between((5, 6), (5, 6)), [1])

    def test_more_beats(self):
        self.assertEqual(between((1, 4, 9, 16, 25), (0, 4, 5, 8, 10, 16, 20, 30)), [0, 3, 1, 2])
        self.assertEqual(between((0, 9999), tuple(range(40))), [40])
        self.assertEqual(between(FULL_ROW, FULL_ROW), [1] * 39)

    def test_against_each_tick(self):
        for one, other in TWO_ROWS:
            one = one[:5]
            due = [len([tick for tick in range(*ends) if tick in other]) for ends in zip(one, one[1:])]
            with self.subTest(one=one, other=other):
                self.assertEqual(between(one, other), due)


class RefusalTest(unittest.TestCase):
    def test_no_row_at_each_place(self):
        for told in OF_TWO:
            for thing in NO_ROWS:
                for good in [(), (5,), (1, 4, 9)]:
                    with self.subTest(told=told.__name__, thing=thing, good=good):
                        with self.assertRaises(NoRow):
                            told(thing, good)
                        with self.assertRaises(NoRow):
                            told(good, thing)

    def test_no_row_at_both_places(self):
        for told in OF_TWO:
            for thing in (None, True, 5, [1, 2], (2, 1), "|", (True,)):
                with self.subTest(told=told.__name__, thing=thing), self.assertRaises(NoRow):
                    told(thing, thing)

    def test_what_is_refused_is_not_changed(self):
        for told in OF_TWO:
            for thing in ([3, 1, 2], [[1], [2, [3]]], ([1, 2], 3)):
                before = copy.deepcopy(thing)
                with self.assertRaises(NoRow):
                    told(thing, (1, 2))
                with self.assertRaises(NoRow):
                    told((1, 2), thing)
                self.assertEqual(thing, before)


class ToldListsTest(unittest.TestCase):
    def test_lists(self):
        for told in LISTED:
            for one, other in TWO_ROWS:
                self.assertIs(type(told(one, other)), list)

    def test_a_told_list_may_be_changed(self):
        for told in LISTED:
            for one, other in [((), ()), ((5,), (7,)), ((1, 4, 9), (2, 4, 12))]:
                first = told(one, other)
                before = list(first)
                first.append(77)
                first[0] = -5
                with self.subTest(told=told.__name__, one=one, other=other):
                    self.assertEqual(told(one, other), before)

    def test_asked_the_same_again(self):
        def told_of_all():
            return [[told(one, other) for told in OF_TWO] for one, other in TWO_ROWS]

        self.assertEqual(told_of_all(), told_of_all())


if __name__ == "__main__":
    unittest.main()
