"""[2.1] by_count, [2.2] by_time and sharper, and what [0.3] says of fractions."""

import unittest
from fractions import Fraction
from math import gcd

from gatebeats.rates import by_count, by_time, sharper
from tests.helper import FULL_ROW, ROWS

GATES = [(start, length) for start in (0, 1, 3, 4, 12, 9960, 9999) for length in (1, 2, 3, 6, 10, 40, 5000, 9999)]


def beats_of(row, start, length):
    return [beat for beat in row if beat in range(start, start + length)]


def apart(pair):
    return Fraction(*pair[1]) - Fraction(*pair[0])


class FractionsTest(unittest.TestCase):
    def check_fraction(self, thing):
        self.assertIs(type(thing), tuple)
        self.assertEqual([type(part) for part in thing], [int, int])
        self.assertGreater(thing[1], 0)
        self.assertEqual(gcd(*thing), 1)

    def test_two_fractions_in_lowest_terms(self):
        for told in (by_count, by_time):
            for row in ROWS:
                for gate in GATES:
                    pair = told(row, *gate)
                    with self.subTest(told=told.__name__, row=row, gate=gate):
                        if pair is not None or told is by_count:
                            self.assertIs(type(pair), tuple)
                            self.assertEqual(len(pair), 2)
                            self.check_fraction(pair[0])
                            self.check_fraction(pair[1])
                            self.assertLess(Fraction(*pair[0]), Fraction(*pair[1]))


class ByCountTest(unittest.TestCase):
    def test_no_beat(self):
        self.assertEqual(by_count((), 0, 10), ((0, 1), (1, 10)))
        self.assertEqual(by_count((3, 99), 4, 95), ((0, 1), (1, 95)))
        self.assertEqual(by_count((), 9999, 1), ((0, 1), (1, 1)))

    def test_one_beat(self):
        self.assertEqual(by_count((3,), 0, 10), ((0, 1), (1, 5)))
        self.assertEqual(by_count((3, 10), 0, 9), ((0, 1), (2, 9)))
        self.assertEqual(by_count((3,), 3, 1), ((0, 1), (2, 1)))

    def test_two_beats(self):
        self.assertEqual(by_count((3, 9), 0, 10), ((1, 10), (3, 10)))
        self.assertEqual(by_count((3, 9), 0, 9999), ((1, 9999), (1, 3333)))
        self.assertEqual(by_count((3, 4), 3, 2), ((1, 2), (3, 2)))

    def test_more_beats(self):
        self.assertEqual(by_count((1, 4, 9, 16, 25), 0, 30), ((2, 15), (1, 5)))
        self.assertEqual(by_count((1, 4, 9, 16, 25), 4, 13), ((2, 13), (4, 13)))
        self.assertEqual(by_count(FULL_ROW, 0, 400), ((39, 400), (41, 400)))
        self.assertEqual(by_count((0, 1, 2), 0, 3), ((2, 3), (4, 3)))

    def test_many_rows_and_gates(self):
        for row in ROWS:
            for start, length in GATES:
                many = len(beats_of(row, start, length))
                low, high = by_count(row, start, length)
                with self.subTest(row=row, start=start, length=length):
                    self.assertEqual(Fraction(*low), Fraction(max(many - 1, 0), length))
                    self.assertEqual(Fraction(*high), Fraction(many + 1, length))


class ByTimeTest(unittest.TestCase):
    def test_none_without_two_beats(self):
        self.assertIsNone(by_time((), 0, 10))
        self.assertIsNone(by_time((3,), 0, 10))
        self.assertIsNone(by_time((3, 50), 0, 10))
        self.assertIsNone(by_time((3, 50), 10, 10))

    def test_none_of_two_side_by_side(self):
        self.assertIsNone(by_time((3, 4), 0, 10))
        self.assertIsNone(by_time((0, 1), 0, 2))
        self.assertIsNone(by_time((9998, 9999), 9998, 2))
        self.assertIsNone(by_time((1, 5, 6, 9), 5, 4))

    def test_two_that_are_not_side_by_side(self):
        self.assertEqual(by_time((3, 5), 0, 10), ((1, 3), (1, 1)))
        self.assertEqual(by_time((3, 9), 0, 10), ((1, 7), (1, 5)))
        self.assertEqual(by_time((0, 9998), 0, 9999), ((1, 9999), (1, 9997)))
        self.assertEqual(by_time((1, 9999), 1, 9999), ((1, 9999), (1, 9997)))

    def test_more_than_two(self):
        self.assertEqual(by_time((1, 4, 9, 16, 25), 0, 30), ((4, 25), (4, 23)))
        self.assertEqual(by_time((0, 3, 7), 0, 10), ((1, 4), (1, 3)))
        self.assertEqual(by_time(FULL_ROW, 0, 400), ((39, 391), (39, 389)))

    def test_three_side_by_side(self):
        self.assertEqual(by_time((4, 5, 6), 0, 10), ((2, 3), (2, 1)))
        self.assertEqual(by_time((0, 1, 2), 0, 3), ((2, 3), (2, 1)))

    def test_beats_outside_of_the_gate_do_not_count(self):
        row = (1, 4, 9, 16, 25)
        self.assertEqual(by_time(row, 4, 13), ((2, 13), (2, 11)))
        self.assertEqual(by_time(row, 2, 23), by_time(row, 4, 13))
        self.assertEqual(by_time(row, 5, 12), ((1, 8), (1, 6)))
        self.assertEqual(by_time(row, 4, 12), ((1, 6), (1, 4)))

    def test_many_rows_and_gates(self):
        for row in ROWS:
            for start, length in GATES:
                beats = beats_of(row, start, length)
                pair = by_time(row, start, length)
                with self.subTest(row=row, start=start, length=length):
                    if len(beats) < 2 or beats == [beats[0], beats[0] + 1]:
                        self.assertIsNone(pair)
                    else:
                        ticks = beats[-1] - beats[0]
                        self.assertEqual(Fraction(*pair[0]), Fraction(len(beats) - 1, ticks + 1))
                        self.assertEqual(Fraction(*pair[1]), Fraction(len(beats) - 1, ticks - 1))


class SharperTest(unittest.TestCase):
    def test_time_where_its_two_are_less_apart(self):
        # 1/7 to 1/5, which is 2/35, and 1/10 to 3/10, which is 2/10.
        self.assertEqual(sharper((3, 9), 0, 10), "time")
        self.assertEqual(sharper(FULL_ROW, 0, 400), "time")
        # 1/4 to 1/2 and 1/7 to 3/7: 1/4 and 2/7.
        self.assertEqual(sharper((0, 3), 0, 7), "time")

    def test_count_where_they_are_as_far_apart(self):
        # 1/4 to 1/2 and 1/8 to 3/8.
        self.assertEqual(sharper((0, 3), 0, 8), "count")
        # 1/3 to 1 both.
        self.assertEqual(sharper((0, 2), 0, 3), "count")

    def test_count_where_they_are_farther_apart(self):
        self.assertEqual(sharper((0, 3), 0, 9), "count")
        self.assertEqual(sharper((4, 5, 6), 0, 10), "count")
        self.assertEqual(sharper((0, 1, 2), 0, 3), "count")

    def test_count_where_by_time_is_none(self):
        for row in [(), (3,), (3, 4), (3, 50)]:
            with self.subTest(row=row):
                self.assertEqual(sharper(row, 0, 10), "count")

    def test_many_rows_and_gates(self):
        seen = set()
        for row in ROWS:
            for gate in GATES:
                timed, by_many = by_time(row, *gate), by_count(row, *gate)
                due = "time" if timed is not None and apart(timed) < apart(by_many) else "count"
                seen.add(due)
                with self.subTest(row=row, gate=gate):
                    self.assertEqual(sharper(row, *gate), due)
        self.assertEqual(seen, {"time", "count"})


class SameAgainTest(unittest.TestCase):
    def test_asked_the_same_again(self):
        def told_of_all():
            return [(by_count(row, *gate), by_time(row, *gate), sharper(row, *gate)) for row in ROWS for gate in GATES]

        self.assertEqual(told_of_all(), told_of_all())


if __name__ == "__main__":
    unittest.main()
