"""[7.1] rows worked on, and what [0.3] says of them."""

import copy
import unittest

from gatebeats.errors import NoGate, NoRow
from gatebeats.rows import counted, is_row
from gatebeats.working import cut_out, divided, merged, missing, shifted, slowed
from tests.helper import FULL_ROW, NO_LENGTHS, NO_ROWS, NO_STARTS, NO_WHOLES, ROWS

BY_NUMBER = [shifted, divided, slowed, missing]
BY_TIMES = [divided, slowed]

NO_SHIFTS = NO_WHOLES + [-10000, 10000, -10001, 10001, 99999, -99999]
NO_TIMES = NO_WHOLES + [0, -1, -40, 41, 42, 9999, 10000]


class ShiftedTest(unittest.TestCase):
    def test_the_empty_row(self):
        for by in (-9999, -1, 0, 1, 9999):
            self.assertEqual(shifted((), by), ())

    def test_by_nothing(self):
        for row in ROWS:
            self.assertEqual(shifted(row, 0), row)

    def test_later_and_sooner(self):
        self.assertEqual(shifted((1, 4, 9), 5), (6, 9, 14))
        self.assertEqual(shifted((6, 9, 14), -5), (1, 4, 9))
        self.assertEqual(shifted((5,), 1), (6,))
        self.assertEqual(shifted((5,), -1), (4,))

    def test_by_9999(self):
        self.assertEqual(shifted((0,), 9999), (9999,))
        self.assertEqual(shifted((9999,), -9999), (0,))
        self.assertEqual(shifted((0,), 9998), (9998,))

    def test_the_first_beat_at_0_and_just_below(self):
        self.assertEqual(shifted((3, 7), -3), (0, 4))
        for row, by in [((3, 7), -4), ((0,), -1), ((0, 9999), -1), ((3, 9999), -9999), ((9998,), -9999), (FULL_ROW, -1)]:
            with self.subTest(row=row, by=by), self.assertRaises(NoRow):
                shifted(row, by)

    def test_the_last_beat_at_9999_and_just_above(self):
        self.assertEqual(shifted((3, 7), 9992), (9995, 9999))
        for row, by in [((3, 7), 9993), ((9999,), 1), ((0, 9999), 1), ((0, 7), 9999), ((1,), 9999), (FULL_ROW, 9610)]:
            with self.subTest(row=row, by=by), self.assertRaises(NoRow):
                shifted(row, by)
        self.assertEqual(shifted(FULL_ROW, 9609)[-1], 9999)

    def test_no_such_number(self):
        for row in [(), (0,), (5000,), (1, 4, 9), FULL_ROW]:
            for by in NO_SHIFTS:
                with self.subTest(row=row, by=by), self.assertRaises(NoGate):
                    shifted(row, by)

    def test_there_and_back(self):
        for row in ROWS:
            for by in (-500, -3, 1, 77, 4000):
                if len(row) > 0 and 0 <= row[0] + by and row[-1] + by <= 9999:
                    with self.subTest(row=row, by=by):
                        self.assertEqual(shifted(shifted(row, by), -by), row)


class MergedTest(unittest.TestCase):
    def test_rows_without_beats(self):
        self.assertEqual(merged((), ()), ())
        for row in ROWS:
            self.assertEqual(merged(row, ()), row)
            self.assertEqual(merged((), row), row)

    def test_beats_of_both(self):
        self.assertEqual(merged((1, 5), (3, 9)), (1, 3, 5, 9))
        self.assertEqual(merged((3, 9), (1, 5)), (1, 3, 5, 9))
        self.assertEqual(merged((7, 8), (1, 2)), (1, 2, 7, 8))
        self.assertEqual(merged((0,), (9999,)), (0, 9999))
        self.assertEqual(merged((2, 100, 1000), (10, 11, 2000)), (2, 10, 11, 100, 1000, 2000))

    def test_those_in_one_tick_once(self):
        self.assertEqual(merged((1, 5), (5, 9)), (1, 5, 9))
        self.assertEqual(merged((5,), (5,)), (5,))
        for row in ROWS:
            self.assertEqual(merged(row, row), row)

    def test_40_beats_and_41(self):
        self.assertEqual(merged(tuple(range(20)), tuple(range(20, 40))), tuple(range(40)))
        self.assertEqual(merged(tuple(range(39)), (500,)), tuple(range(39)) + (500,))
        self.assertEqual(merged(tuple(range(40)), (5, 39)), tuple(range(40)))
        self.assertEqual(merged(tuple(range(30)), tuple(range(10, 40))), tuple(range(40)))
        cases = [
            (tuple(range(20)), tuple(range(20, 41))), (tuple(range(40)), (40,)), ((9999,), tuple(range(40))),
            (tuple(range(40)), (5, 39, 40)), (tuple(range(30)), tuple(range(10, 41))), (FULL_ROW, tuple(range(40))),
            (tuple(range(1, 41)), tuple(range(40))),
        ]
        for one, other in cases:
            with self.subTest(one=one, other=other):
                with self.assertRaises(NoRow):
                    merged(one, other)
                with self.assertRaises(NoRow):
                    merged(other, one)

    def test_many_rows(self):
        for one in ROWS:
            for other in ROWS:
                ticks = [tick for tick in range(10000) if tick in one[:9] or tick in other[-9:]]
                with self.subTest(one=one, other=other):
                    self.assertEqual(merged(one[:9], other[-9:]), tuple(ticks))

    def test_no_row_at_each_place(self):
        for thing in NO_ROWS:
            for good in [(), (5,), (1, 4, 9)]:
                with self.subTest(thing=thing, good=good):
                    with self.assertRaises(NoRow):
                        merged(thing, good)
                    with self.assertRaises(NoRow):
                        merged(good, thing)
                    with self.assertRaises(NoRow):
                        merged(thing, thing)


class CutOutTest(unittest.TestCase):
    def test_the_first_and_the_last_tick(self):
        for tick, due in [(9, ()), (10, (0,)), (11, (1,)), (14, (4,)), (15, ()), (16, ())]:
            with self.subTest(tick=tick):
                self.assertEqual(cut_out((tick,), 10, 5), due)
        self.assertEqual(cut_out((9, 10, 11, 14, 15, 16), 10, 5), (0, 1, 4))

    def test_limits(self):
        self.assertEqual(cut_out((), 0, 1), ())
        self.assertEqual(cut_out((0, 1), 0, 1), (0,))
        self.assertEqual(cut_out((0, 5, 9998, 9999), 0, 9999), (0, 5, 9998))
        self.assertEqual(cut_out((0, 5, 9998, 9999), 1, 9999), (4, 9997, 9998))
        self.assertEqual(cut_out((9998, 9999), 9999, 9999), (0,))
        self.assertEqual(cut_out((9998, 9999), 9999, 1), (0,))
        self.assertEqual(cut_out(FULL_ROW, 0, 9999), FULL_ROW)

    def test_many_gates(self):
        for row in ROWS:
            for start in (0, 1, 3, 20, 9960, 9999):
                for length in (1, 2, 6, 30, 9999):
                    told = cut_out(row, start, length)
                    with self.subTest(row=row, start=start, length=length):
                        self.assertIs(is_row(told), True)
                        self.assertEqual(len(told), counted(row, start, length))
                        self.assertEqual([start + beat for beat in told], sorted(set(row) & set(range(start, start + length))))

    def test_no_gate(self):
        for row in [(), (5,), FULL_ROW]:
            for start in NO_STARTS:
                with self.subTest(row=row, start=start), self.assertRaises(NoGate):
                    cut_out(row, start, 5)
            for length in NO_LENGTHS:
                with self.subTest(row=row, length=length), self.assertRaises(NoGate):
                    cut_out(row, 5, length)

    def test_no_row(self):
        for thing in NO_ROWS:
            for gate in [(0, 10), (None, 10), (0, None), (-1, 0), (True, "1"), (thing, thing)]:
                with self.subTest(thing=thing, gate=gate), self.assertRaises(NoRow):
                    cut_out(thing, *gate)


class DividedTest(unittest.TestCase):
    def test_the_empty_row(self):
        for by in (1, 2, 39, 40):
            self.assertEqual(divided((), by), ())

    def test_by_1(self):
        for row in ROWS:
            self.assertEqual(divided(row, 1), row)

    def test_by_2_and_3(self):
        self.assertEqual(divided((1, 4, 9, 16, 25), 2), (1, 9, 25))
        self.assertEqual(divided((1, 4, 9, 16), 2), (1, 9))
        self.assertEqual(divided((1, 4, 9, 16, 25), 3), (1, 16))
        self.assertEqual(divided((1, 4, 9, 16, 25), 4), (1, 25))

    def test_by_as_many_as_there_are_and_more(self):
        self.assertEqual(divided((1, 4, 9), 2), (1, 9))
        self.assertEqual(divided((1, 4, 9), 3), (1,))
        self.assertEqual(divided((1, 4, 9), 4), (1,))
        self.assertEqual(divided((1, 4, 9), 40), (1,))
        self.assertEqual(divided((7,), 1), (7,))
        self.assertEqual(divided((7,), 2), (7,))
        self.assertEqual(divided(FULL_ROW, 39), (0, 390))
        self.assertEqual(divided(FULL_ROW, 40), (0,))

    def test_many_rows(self):
        for row in ROWS:
            for by in range(1, 41):
                due = tuple([beat for place, beat in enumerate(row) if place in range(0, 40, by)])
                with self.subTest(row=row, by=by):
                    self.assertEqual(divided(row, by), due)


class SlowedTest(unittest.TestCase):
    def test_the_empty_row(self):
        for by in (1, 2, 40):
            self.assertEqual(slowed((), by), ())

    def test_by_1(self):
        for row in ROWS:
            self.assertEqual(slowed(row, 1), row)

    def test_by_more(self):
        self.assertEqual(slowed((1, 4, 9), 2), (2, 8, 18))
        self.assertEqual(slowed((0,), 40), (0,))
        self.assertEqual(slowed((0, 1, 249), 40), (0, 40, 9960))
        self.assertEqual(slowed((3, 10), 39), (117, 390))

    def test_the_last_beat_at_9999_and_just_above(self):
        self.assertEqual(slowed((5, 3333), 3), (15, 9999))
        self.assertEqual(slowed((0, 1111), 9), (0, 9999))
        self.assertEqual(slowed((9999,), 1), (9999,))
        for row, by in [((5000,), 2), ((0, 5000), 2), ((1, 9999), 2), ((250,), 40), ((0, 1250), 8), ((5, 3334), 3)]:
            with self.subTest(row=row, by=by), self.assertRaises(NoRow):
                slowed(row, by)

    def test_there_and_back(self):
        for row in ROWS:
            for by in range(1, 41):
                if len(row) > 0 and row[-1] * by <= 9999:
                    with self.subTest(row=row, by=by):
                        self.assertEqual([beat // by for beat in slowed(row, by)], list(row))
                        self.assertEqual({beat % by for beat in slowed(row, by)}, {0})


class MissingTest(unittest.TestCase):
    def test_rows_of_0_1_and_2_beats(self):
        for length in (1, 2, 9999):
            self.assertEqual(missing((), length), [])
            for tick in (0, 5, 9999):
                self.assertEqual(missing((tick,), length), [])
            self.assertEqual(missing((5, 6), length), [])
        self.assertEqual(missing((5, 7), 1), [(6, 1)])
        self.assertEqual(missing((5, 9), 1), [(6, 3)])

    def test_stretches_of_just_length_and_less(self):
        self.assertEqual(missing((5, 9), 3), [(6, 3)])
        self.assertEqual(missing((5, 9), 4), [])
        self.assertEqual(missing((5, 7), 2), [])
        self.assertEqual(missing((0, 9999), 9998), [(1, 9998)])
        self.assertEqual(missing((0, 9999), 9999), [])
        self.assertEqual(missing((0, 9999), 1), [(1, 9998)])

    def test_beats_side_by_side(self):
        self.assertEqual(missing((0, 1, 2), 1), [])
        self.assertEqual(missing(tuple(range(40)), 1), [])
        self.assertEqual(missing((3, 4, 8, 9), 1), [(5, 3)])

    def test_several_in_their_order(self):
        row = (10, 20, 21, 23, 30, 39)
        self.assertEqual(missing(row, 1), [(11, 9), (22, 1), (24, 6), (31, 8)])
        self.assertEqual(missing(row, 2), [(11, 9), (24, 6), (31, 8)])
        self.assertEqual(missing(row, 8), [(11, 9), (31, 8)])
        self.assertEqual(missing(row, 9), [(11, 9)])
        self.assertEqual(missing(row, 10), [])

    def test_against_each_tick(self):
        for row in ROWS:
            for length in (1, 2, 5, 9, 10, 4000):
                due, start = [], None
                for tick in range(row[0], row[-1] + 1) if row else []:
                    if tick in row:
                        if start is not None and tick - start >= length:
                            due.append((start, tick - start))
                        start = tick + 1
                with self.subTest(row=row, length=length):
                    self.assertEqual(missing(row, length), due)

    def test_a_told_list_may_be_changed(self):
        for row, length in [((), 1), ((5, 9), 2), ((10, 20, 21, 23, 30), 1)]:
            first = missing(row, length)
            self.assertIs(type(first), list)
            self.assertEqual({type(pair) for pair in first} - {tuple}, set())
            before = list(first)
            first.append((7, 7))
            first[0] = None
            with self.subTest(row=row):
                self.assertEqual(missing(row, length), before)

    def test_no_length(self):
        for row in [(), (5,), (5, 9), FULL_ROW]:
            for length in NO_LENGTHS:
                with self.subTest(row=row, length=length), self.assertRaises(NoGate):
                    missing(row, length)


class RefusalTest(unittest.TestCase):
    def test_no_such_times(self):
        for told in BY_TIMES:
            for row in [(), (0,), (5, 9), (9999,), FULL_ROW]:
                for by in NO_TIMES:
                    with self.subTest(told=told.__name__, row=row, by=by), self.assertRaises(NoGate):
                        told(row, by)

    def test_no_row_ahead_of_no_gate(self):
        for told in BY_NUMBER:
            for thing in NO_ROWS:
                for number in (1, 40, 0, -1, 41, 10000, -10000, None, True, "1", [1], (1,), thing):
                    with self.subTest(told=told.__name__, thing=thing, number=number), self.assertRaises(NoRow):
                        told(thing, number)

    def test_what_is_refused_is_not_changed(self):
        for told in BY_NUMBER:
            for thing in ([3, 1, 2], [[1], [2, [3]]], ([1, 2], 3)):
                before = copy.deepcopy(thing)
                with self.assertRaises(NoRow):
                    told(thing, 1)
                with self.assertRaises(NoGate):
                    told((1, 2), thing)
                self.assertEqual(thing, before)


class RowsToldTest(unittest.TestCase):
    def test_rows_are_tuples(self):
        for row in ROWS:
            told = [shifted(row, 0), merged(row, ()), merged((), row), cut_out(row, 0, 9999)]
            told += [divided(row, 1), divided(row, 3), slowed(row, 1), slowed(row[:1], 1)]
            for each in told:
                self.assertIs(type(each), tuple)
                self.assertIs(is_row(each), True)
                self.assertEqual({type(beat) for beat in each} - {int}, set())

    def test_asked_the_same_again(self):
        def told_of_all():
            for row in ROWS:
                yield [shifted(row, 0), merged(row, row), cut_out(row, 3, 50), divided(row, 2), slowed(row, 1)]
                yield missing(row, 2)

        self.assertEqual(list(told_of_all()), list(told_of_all()))


if __name__ == "__main__":
    unittest.main()
