"""[9.1] couples, alone, best_shift and farthest, and what [0.3] says of them."""

import copy
import unittest
from itertools import combinations

from gatebeats.errors import NoGate, NoRow
from gatebeats.matching import alone, best_shift, couples, farthest
from tests.helper import FULL_ROW, NO_ROWS, NO_WHOLES, ROWS

WITH_NUMBER = [couples, alone, best_shift]
LISTED = [couples, alone]

NO_APART = NO_WHOLES + [-1, -2, -9999, 10000, 10001, 99999]

SMALL_ROWS = [row for many in range(5) for row in combinations(range(7), many)]
SMALL_PAIRS = [(one, other) for one in SMALL_ROWS for other in SMALL_ROWS]
TWO_ROWS = [(one, other) for one in ROWS for other in ROWS]


def most_couples(one, other, near):
    """The most couples that can be, found by trying all ways."""
    if len(one) == 0:
        return 0
    best = most_couples(one[1:], other, near)
    for beat in other:
        if abs(beat - one[0]) <= near:
            left = tuple([each for each in other if each != beat])
            best = max(best, 1 + most_couples(one[1:], left, near))
    return best


def first_that_are_left(one, other, near):
    """What couples has to tell, as the document says it."""
    left, told = list(other), []
    for beat in one:
        close = [each for each in left if abs(each - beat) <= near]
        if close:
            told.append((beat, close[0]))
            left.remove(close[0])
    return told


def shift_by_search(one, other, most):
    """What best_shift has to tell, found by trying all shifts, the nearest to 0 first."""
    shifts = sorted(range(-most, most + 1), key=lambda by: (abs(by), by < 0))
    return max(shifts, key=lambda by: len(set(one) & {beat + by for beat in other}))


class CouplesTest(unittest.TestCase):
    def test_rows_without_beats(self):
        for near in (0, 5, 9999):
            self.assertEqual(couples((), (), near), [])
            self.assertEqual(couples((5,), (), near), [])
            self.assertEqual(couples((), (5,), near), [])
            self.assertEqual(couples((), FULL_ROW, near), [])
            self.assertEqual(couples(FULL_ROW, (), near), [])

    def test_one_beat_each(self):
        self.assertEqual(couples((5,), (5,), 0), [(5, 5)])
        self.assertEqual(couples((5,), (6,), 0), [])
        self.assertEqual(couples((6,), (5,), 0), [])
        self.assertEqual(couples((0,), (9999,), 9999), [(0, 9999)])
        self.assertEqual(couples((9999,), (0,), 9999), [(9999, 0)])
        self.assertEqual(couples((0,), (9999,), 9998), [])
        self.assertEqual(couples((9999,), (0,), 9998), [])

    def test_just_near_and_one_tick_more(self):
        for other, due in [(6, []), (7, [(10, 7)]), (10, [(10, 10)]), (13, [(10, 13)]), (14, [])]:
            with self.subTest(other=other):
                self.assertEqual(couples((10,), (other,), 3), due)

    def test_of_several_the_first(self):
        self.assertEqual(couples((10,), (8, 10, 12), 2), [(10, 8)])
        self.assertEqual(couples((10,), (7, 8, 10, 12), 2), [(10, 8)])
        self.assertEqual(couples((8, 10, 12), (10,), 2), [(8, 10)])
        self.assertEqual(couples((10, 11), (9, 10, 11), 2), [(10, 9), (11, 10)])
        self.assertEqual(couples((10, 13), (12, 15), 2), [(10, 12), (13, 15)])

    def test_more_beats(self):
        self.assertEqual(couples((1, 4, 9, 16, 25), (2, 10, 17, 30), 1), [(1, 2), (9, 10), (16, 17)])
        self.assertEqual(couples((1, 2, 3), (3, 4, 5), 2), [(1, 3), (2, 4), (3, 5)])
        self.assertEqual(couples((3, 4, 5), (1, 2, 3), 2), [(3, 1), (4, 2), (5, 3)])
        self.assertEqual(couples((1, 100, 200), (50, 150, 201), 9), [(200, 201)])
        self.assertEqual(couples(FULL_ROW, FULL_ROW, 0), [(beat, beat) for beat in FULL_ROW])
        self.assertEqual(couples(FULL_ROW, tuple(range(40)), 9999), list(zip(FULL_ROW, range(40))))

    def test_as_the_document_says_it(self):
        for one, other in TWO_ROWS:
            for near in (0, 1, 2, 5, 10, 100, 9999):
                with self.subTest(one=one, other=other, near=near):
                    self.assertEqual(couples(one, other, near), first_that_are_left(one, other, near))

    def test_as_many_as_can_be(self):
        for one, other in SMALL_PAIRS:
            for near in (0, 1, 2, 3):
                told = couples(one, other, near)
                with self.subTest(one=one, other=other, near=near):
                    self.assertEqual(told, first_that_are_left(one, other, near))
                    self.assertEqual(len(told), most_couples(one, other, near))


class AloneTest(unittest.TestCase):
    def test_rows_without_beats(self):
        for near in (0, 5, 9999):
            self.assertEqual(alone((), (), near), [])
            self.assertEqual(alone((), (5,), near), [])
            self.assertEqual(alone((5,), (), near), [5])
            self.assertEqual(alone(FULL_ROW, (), near), list(FULL_ROW))

    def test_one_beat_each(self):
        self.assertEqual(alone((5,), (5,), 0), [])
        self.assertEqual(alone((5,), (6,), 0), [5])
        self.assertEqual(alone((0,), (9999,), 9999), [])
        self.assertEqual(alone((0,), (9999,), 9998), [0])
        self.assertEqual(alone((9999,), (0,), 9998), [9999])

    def test_just_near_and_one_tick_more(self):
        for other, due in [(6, [10]), (7, []), (10, []), (13, []), (14, [10])]:
            with self.subTest(other=other):
                self.assertEqual(alone((10,), (other,), 3), due)

    def test_beats_that_share_a_near_one(self):
        # Only one of them can be in a couple, but neither is alone.
        self.assertEqual(alone((10, 12), (11,), 1), [])
        self.assertEqual(couples((10, 12), (11,), 1), [(10, 11)])

    def test_more_beats(self):
        self.assertEqual(alone((1, 4, 9, 16, 25), (2, 10, 17, 30), 1), [4, 25])
        self.assertEqual(alone((1, 4, 9, 16, 25), (2, 10, 17, 30), 0), [1, 4, 9, 16, 25])
        self.assertEqual(alone(FULL_ROW, (5, 205), 5), [beat for beat in FULL_ROW if beat not in (0, 10, 200, 210)])

    def test_many_rows(self):
        for one, other in TWO_ROWS + SMALL_PAIRS:
            for near in (0, 1, 3):
                due = [beat for beat in one if not set(other) & set(range(beat - near, beat + near + 1))]
                told = alone(one, other, near)
                with self.subTest(one=one, other=other, near=near):
                    self.assertEqual(told, due)
                    self.assertEqual(told, sorted(set(told)))


class BestShiftTest(unittest.TestCase):
    def test_without_any_in_common(self):
        for most in (0, 1, 9999):
            self.assertEqual(best_shift((), (), most), 0)
            self.assertEqual(best_shift((5,), (), most), 0)
            self.assertEqual(best_shift((), (5,), most), 0)
        self.assertEqual(best_shift((5,), (9,), 3), 0)
        self.assertEqual(best_shift((9,), (5,), 3), 0)
        self.assertEqual(best_shift((0,), (9999,), 9998), 0)
        self.assertEqual(best_shift((0, 5), (100, 200), 94), 0)

    def test_one_beat_each(self):
        self.assertEqual(best_shift((5,), (5,), 0), 0)
        self.assertEqual(best_shift((9,), (5,), 9), 4)
        self.assertEqual(best_shift((5,), (9,), 9), -4)

    def test_just_most(self):
        self.assertEqual(best_shift((9,), (5,), 4), 4)
        self.assertEqual(best_shift((5,), (9,), 4), -4)
        self.assertEqual(best_shift((9999,), (0,), 9999), 9999)
        self.assertEqual(best_shift((0,), (9999,), 9999), -9999)
        self.assertEqual(best_shift((9999,), (0,), 9998), 0)

    def test_as_many_as_can_be(self):
        self.assertEqual(best_shift((10, 20, 31), (3, 13, 24), 9), 7)
        self.assertEqual(best_shift((3, 13, 24), (10, 20, 31), 9), -7)
        self.assertEqual(best_shift((3, 13, 24), (10, 20, 31), 6), 3)
        # Two are in common with no shift, three with one of 5.
        self.assertEqual(best_shift((0, 5, 10, 15, 25), (0, 10, 20), 9), 5)
        self.assertEqual(best_shift(FULL_ROW, tuple([beat + 3 for beat in FULL_ROW]), 9999), -3)

    def test_of_several_the_one_nearest_0(self):
        self.assertEqual(best_shift((0, 100), (7,), 9999), -7)
        self.assertEqual(best_shift((10, 13), (5, 21), 100), 5)
        self.assertEqual(best_shift((0, 5, 9), (5,), 100), 0)
        self.assertEqual(best_shift((4, 9), (7,), 100), 2)

    def test_of_two_as_near_the_one_above_0(self):
        self.assertEqual(best_shift((4, 10), (7,), 100), 3)
        self.assertEqual(best_shift((7,), (4, 10), 100), 3)
        self.assertEqual(best_shift((0, 20), (10,), 10), 10)
        self.assertEqual(best_shift((0, 1, 20, 21), (10, 11), 10), 10)

    def test_against_all_shifts(self):
        for one, other in SMALL_PAIRS:
            for most in (0, 1, 2, 4, 6):
                with self.subTest(one=one, other=other, most=most):
                    self.assertEqual(best_shift(one, other, most), shift_by_search(one, other, most))

    def test_long_rows_against_all_shifts(self):
        for one, other in TWO_ROWS:
            for most in (0, 3, 60):
                with self.subTest(one=one, other=other, most=most):
                    self.assertEqual(best_shift(one, other, most), shift_by_search(one, other, most))


class FarthestTest(unittest.TestCase):
    def test_none_where_one_row_has_none(self):
        self.assertIsNone(farthest((), ()))
        for row in ROWS[1:]:
            self.assertIsNone(farthest(row, ()))
            self.assertIsNone(farthest((), row))

    def test_one_beat_each(self):
        self.assertEqual(farthest((5,), (5,)), 0)
        self.assertEqual(farthest((5,), (9,)), 4)
        self.assertEqual(farthest((9,), (5,)), 4)
        self.assertEqual(farthest((0,), (9999,)), 9999)

    def test_a_beat_of_either_row(self):
        self.assertEqual(farthest((10,), (10, 50)), 40)
        self.assertEqual(farthest((10, 50), (10,)), 40)
        self.assertEqual(farthest((10, 20), (11, 18)), 2)
        self.assertEqual(farthest((0, 100), (40, 50)), 50)
        self.assertEqual(farthest((40, 50), (0, 100)), 50)
        self.assertEqual(farthest((1, 4, 9, 16, 25), (2, 10, 17, 30)), 5)

    def test_many_rows(self):
        for one, other in TWO_ROWS + SMALL_PAIRS:
            if one and other:
                most = max([sorted([abs(beat - each) for each in other])[0] for beat in one])
                most = max([most] + [sorted([abs(beat - each) for each in one])[0] for beat in other])
                with self.subTest(one=one, other=other):
                    self.assertEqual(farthest(one, other), most)
                    self.assertEqual(farthest(other, one), most)


class RefusalTest(unittest.TestCase):
    def test_no_such_number(self):
        for told in WITH_NUMBER:
            for one, other in [((), ()), ((5,), ()), ((), (5,)), ((1, 4, 9), (2, 4)), (FULL_ROW, FULL_ROW)]:
                for number in NO_APART:
                    with self.subTest(told=told.__name__, one=one, number=number), self.assertRaises(NoGate):
                        told(one, other, number)

    def test_no_row_ahead_of_no_gate(self):
        for told in WITH_NUMBER:
            for thing in NO_ROWS:
                for number in (0, 5, 9999, -1, 10000, None, True, "1", [1], (1,), thing):
                    with self.subTest(told=told.__name__, thing=thing, number=number):
                        for rows in [(thing, (5,)), ((5,), thing), (thing, ()), ((), thing), (thing, thing)]:
                            with self.assertRaises(NoRow):
                                told(*rows, number)

    def test_no_row_of_farthest(self):
        for thing in NO_ROWS:
            with self.subTest(thing=thing):
                for rows in [(thing, (5,)), ((5,), thing), (thing, ()), ((), thing), (thing, thing)]:
                    with self.assertRaises(NoRow):
                        farthest(*rows)

    def test_what_is_refused_is_not_changed(self):
        for told in WITH_NUMBER:
            for thing in ([3, 1, 2], [[1], [2, [3]]], ([1, 2], 3)):
                before = copy.deepcopy(thing)
                self.assertRaises(NoRow, told, thing, (1, 2), 3)
                self.assertRaises(NoRow, told, (1, 2), thing, 3)
                self.assertRaises(NoGate, told, (1, 2), (1, 2), thing)
                self.assertEqual(thing, before)


class ToldTest(unittest.TestCase):
    def test_kinds(self):
        for one, other in TWO_ROWS:
            pairs = couples(one, other, 5)
            self.assertIs(type(pairs), list)
            self.assertEqual({type(pair) for pair in pairs} - {tuple}, set())
            self.assertIs(type(alone(one, other, 5)), list)
            self.assertIs(type(best_shift(one, other, 5)), int)

    def test_a_told_list_may_be_changed(self):
        for told in LISTED:
            for one, other in [((), ()), ((5,), ()), ((5,), (7,)), ((1, 4, 9), (2, 4, 12)), (FULL_ROW, FULL_ROW)]:
                first = told(one, other, 2)
                before = list(first)
                first.append(77)
                first[0] = -5
                with self.subTest(told=told.__name__, one=one, other=other):
                    self.assertEqual(told(one, other, 2), before)

    def test_asked_the_same_again(self):
        def told_of_all():
            return [[told(one, other, 7) for told in WITH_NUMBER] + [farthest(one, other)] for one, other in TWO_ROWS]

        self.assertEqual(told_of_all(), told_of_all())


if __name__ == "__main__":
    unittest.main()
