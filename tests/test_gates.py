"""[3.1] in_gates and lost, [3.2] mean and spread, and what [0.3] says of them."""

import copy
import unittest
from fractions import Fraction
from math import gcd

from gatebeats.errors import NoGate, NoRow
from gatebeats.gates import in_gates, lost, mean, spread
from tests.helper import (
    FULL_ROW, GATES, LONGEST_GATES, NO_DEADS, NO_LENGTHS, NO_MANIES, NO_ROWS, NO_STARTS, NO_WHOLES, ROWS,
)

GATED = [in_gates, lost]
OF_COUNTS = [mean, spread]

NO_COUNT = NO_WHOLES + [-1, -99, 100, 101, 9999]


def told_by_ticks(row, start, length, dead, many):
    """What in_gates and lost have to tell, found by walking from tick to tick."""
    counts, between = [0] * many, 0
    whole = length + dead
    for tick in range(start, start + many * whole - dead):
        if tick in row:
            number, place = divmod(tick - start, whole)
            if place < length:
                counts[number] += 1
            else:
                between += 1
    return counts, between


class LimitsTest(unittest.TestCase):
    def test_many_from_1_to_20(self):
        for many in (1, 2, 19, 20):
            self.assertEqual(in_gates((), 0, 5, 2, many), [0] * many)
            self.assertEqual(lost((), 0, 5, 2, many), 0)

    def test_dead_from_0_to_9999(self):
        self.assertEqual(in_gates((0, 1, 2), 0, 1, 0, 2), [1, 1])
        self.assertEqual(in_gates((0, 1, 9999), 0, 1, 9998, 2), [1, 1])
        self.assertEqual(in_gates((0, 1, 9999), 0, 1, 9999, 2), [1, 0])
        self.assertEqual(lost((0, 1, 9999), 0, 1, 9998, 2), 1)
        self.assertEqual(lost((0, 1, 9999), 0, 1, 9999, 2), 2)

    def test_start_and_length_at_their_limits(self):
        for start in (0, 9999):
            for length in (1, 9999):
                for dead in (0, 9999):
                    with self.subTest(start=start, length=length, dead=dead):
                        self.assertEqual(len(in_gates((0, 9999), start, length, dead, 2)), 2)
                        self.assertIsInstance(lost((0, 9999), start, length, dead, 2), int)

    def test_the_last_tick_at_99999(self):
        for gates in LONGEST_GATES:
            start, length, dead, many = gates
            with self.subTest(gates=gates):
                self.assertEqual(start + many * length + (many - 1) * dead - 1, 99999)
                self.assertEqual(len(in_gates((), *gates)), many)
                self.assertEqual(lost((), *gates), 0)
        self.assertEqual(in_gates((0, 5000, 9999), 0, 5000, 0, 20), [1, 2] + [0] * 18)

    def test_the_last_tick_at_100000(self):
        for told in GATED:
            for start, length, dead, many in LONGEST_GATES:
                if start < 9999:
                    with self.subTest(told=told.__name__, gates=(start + 1, length, dead, many)):
                        with self.assertRaises(NoGate):
                            told((), start + 1, length, dead, many)

    def test_the_last_tick_above_100000(self):
        for told in GATED:
            for gates in [(9999, 2, 9999, 10), (0, 5001, 0, 20), (0, 5000, 1, 20), (9999, 9999, 9999, 20)]:
                with self.subTest(told=told.__name__, gates=gates), self.assertRaises(NoGate):
                    told((5, 9999), *gates)

    def test_dead_ticks_behind_the_last_gate_do_not_count(self):
        self.assertEqual(in_gates((9999,), 9999, 9999, 9999, 1), [1])
        self.assertEqual(len(in_gates((), 5, 9999, 9999, 5)), 5)
        self.assertEqual(len(in_gates((), 9, 9999, 9999, 5)), 5)
        self.assertEqual(len(in_gates((), 9999, 1, 9999, 9)), 9)


class RefusalTest(unittest.TestCase):
    def check_refused(self, place, things):
        for told in GATED:
            for thing in things:
                gates = [3, 5, 2, 4]
                gates[place] = thing
                for row in [(), (3, 4, 9, 20)]:
                    with self.subTest(told=told.__name__, gates=gates, row=row), self.assertRaises(NoGate):
                        told(row, *gates)

    def test_starts(self):
        self.check_refused(0, NO_STARTS)

    def test_lengths(self):
        self.check_refused(1, NO_LENGTHS)

    def test_deads(self):
        self.check_refused(2, NO_DEADS)

    def test_manies(self):
        self.check_refused(3, NO_MANIES)

    def test_a_dead_that_is_none_beside_one_gate(self):
        for told in GATED:
            for dead in NO_DEADS:
                with self.subTest(told=told.__name__, dead=dead), self.assertRaises(NoGate):
                    told((1,), 0, 5, dead, 1)

    def test_no_row(self):
        for told in GATED:
            for thing in NO_ROWS:
                with self.subTest(told=told.__name__, thing=thing), self.assertRaises(NoRow):
                    told(thing, 0, 10, 2, 3)

    def test_no_row_comes_ahead_of_no_gate(self):
        others = [(-1, 5, 2, 4), (3, 0, 2, 4), (3, 5, -1, 4), (3, 5, 2, 0), (3, 5, 2, 21), (1, 5000, 0, 20)]
        others += [(None, None, None, None), ([], (), "", True), (True, 5, 2, 4), (3, 5, 10000, 4)]
        for told in GATED:
            for thing in (None, [1, 2], (2, 1), (True,), tuple(range(41)), "|", 5):
                for gates in others:
                    with self.subTest(told=told.__name__, thing=thing, gates=gates), self.assertRaises(NoRow):
                        told(thing, *gates)

    def test_what_is_refused_is_not_changed(self):
        for told in GATED:
            for thing in ([3, 1, 2], [[1], [2, [3]]], ([1, 2], 3)):
                before = copy.deepcopy(thing)
                with self.subTest(told=told.__name__, thing=thing):
                    with self.assertRaises(NoRow):
                        told(thing, 0, 10, 2, 3)
                    for place in range(4):
                        gates = [0, 10, 2, 3]
                        gates[place] = thing
                        with self.assertRaises(NoGate):
                            told((1, 2), *gates)
                    self.assertEqual(thing, before)


class InGatesTest(unittest.TestCase):
    def test_first_and_last_ticks(self):
        # Gates 10 to 14, 18 to 22 and 26 to 30; dead are 15 to 17 and 23 to 25.
        gates = (10, 5, 3, 3)
        due = {
            9: ([0, 0, 0], 0), 10: ([1, 0, 0], 0), 14: ([1, 0, 0], 0), 15: ([0, 0, 0], 1), 16: ([0, 0, 0], 1),
            17: ([0, 0, 0], 1), 18: ([0, 1, 0], 0), 22: ([0, 1, 0], 0), 23: ([0, 0, 0], 1), 25: ([0, 0, 0], 1),
            26: ([0, 0, 1], 0), 30: ([0, 0, 1], 0), 31: ([0, 0, 0], 0), 33: ([0, 0, 0], 0), 0: ([0, 0, 0], 0),
        }
        for tick, (counts, between) in due.items():
            with self.subTest(tick=tick):
                self.assertEqual(in_gates((tick,), *gates), counts)
                self.assertEqual(lost((tick,), *gates), between)
        row = tuple(sorted(due))
        self.assertEqual(in_gates(row, *gates), [2, 2, 2])
        self.assertEqual(lost(row, *gates), 5)

    def test_one_gate(self):
        self.assertEqual(in_gates((3, 5, 6, 12, 13, 40), 5, 8, 3, 1), [3])
        self.assertEqual(lost((3, 5, 6, 12, 13, 40), 5, 8, 3, 1), 0)

    def test_one_dead_tick(self):
        row = tuple(range(20))
        self.assertEqual(in_gates(row, 2, 3, 1, 4), [3, 3, 3, 3])
        self.assertEqual(lost(row, 2, 3, 1, 4), 3)

    def test_gates_that_start_behind_tick_9999(self):
        self.assertEqual(in_gates((0, 9998, 9999), 9990, 9, 0, 3), [1, 1, 0])
        self.assertEqual(in_gates((9999,), 9999, 1, 0, 20), [1] + [0] * 19)
        self.assertEqual(in_gates((9999,), 9990, 9, 1, 2), [0, 0])
        self.assertEqual(lost((9999,), 9990, 9, 1, 2), 1)

    def test_full_rows(self):
        self.assertEqual(in_gates(FULL_ROW, 0, 20, 0, 20), [2] * 20)
        self.assertEqual(in_gates(FULL_ROW, 0, 10, 10, 20), [1] * 20)
        self.assertEqual(lost(FULL_ROW, 0, 10, 10, 20), 19)
        self.assertEqual(in_gates(FULL_ROW, 1, 9, 1, 20), [0] * 20)
        self.assertEqual(lost(FULL_ROW, 1, 9, 1, 20), 19)

    def test_without_dead_ticks_nothing_is_lost(self):
        for row in ROWS:
            for start in (0, 1, 7, 9999):
                for length in (1, 2, 10, 4500):
                    for many in (1, 2, 20):
                        with self.subTest(row=row, start=start, length=length, many=many):
                            self.assertEqual(lost(row, start, length, 0, many), 0)

    def test_against_each_tick(self):
        for row in ROWS:
            for gates in GATES:
                counts, between = told_by_ticks(row, *gates)
                with self.subTest(row=row, gates=gates):
                    self.assertEqual(in_gates(row, *gates), counts)
                    self.assertEqual(lost(row, *gates), between)

    def test_a_told_list_may_be_changed(self):
        for gates in [(0, 5, 2, 1), (0, 5, 2, 4)]:
            first = in_gates((1, 2, 6, 9), *gates)
            self.assertIs(type(first), list)
            before = list(first)
            first.append(77)
            first[0] = -5
            with self.subTest(gates=gates):
                self.assertEqual(in_gates((1, 2, 6, 9), *gates), before)


class CountsTest(unittest.TestCase):
    def test_lists_and_tuples(self):
        for kind in (list, tuple):
            with self.subTest(kind=kind.__name__):
                self.assertEqual(mean(kind([3, 4, 4, 5])), (4, 1))
                self.assertEqual(spread(kind([3, 4, 4, 5])), 2)
                self.assertEqual(mean(kind([5, 2])), (7, 2))
                self.assertEqual(spread(kind([5, 2])), 3)

    def test_one_and_twenty(self):
        self.assertEqual(mean([7]), (7, 1))
        self.assertEqual(spread([7]), 0)
        self.assertEqual(mean([1] * 19 + [2]), (21, 20))
        self.assertEqual(mean(tuple(range(20))), (19, 2))
        self.assertEqual(spread(tuple(range(20))), 19)

    def test_0_and_99(self):
        self.assertEqual(mean([0]), (0, 1))
        self.assertEqual(mean([0] * 20), (0, 1))
        self.assertEqual(spread([0] * 20), 0)
        self.assertEqual(mean([99] * 20), (99, 1))
        self.assertEqual(spread([99] * 20), 0)
        self.assertEqual(mean([99, 0]), (99, 2))
        self.assertEqual(spread([99, 0]), 99)
        self.assertEqual(spread((0, 50, 99, 1)), 99)

    def test_mean_is_in_lowest_terms(self):
        for counts in [[2, 4, 6, 9], [0, 0, 3], [10, 5], [99] * 6 + [96], [0, 1] * 10, [6, 6, 6], [1, 2, 3, 4, 5, 7]]:
            told = mean(counts)
            with self.subTest(counts=counts):
                self.assertIs(type(told), tuple)
                self.assertEqual([type(part) for part in told], [int, int])
                self.assertGreater(told[1], 0)
                self.assertEqual(gcd(*told), 1)
                self.assertEqual(Fraction(*told), Fraction(sum(counts), len(counts)))

    def test_what_in_gates_tells(self):
        counts = in_gates((1, 2, 6, 9, 14), 0, 5, 0, 3)
        self.assertEqual(counts, [2, 2, 1])
        self.assertEqual(mean(counts), (5, 3))
        self.assertEqual(spread(counts), 1)

    def test_too_few_and_too_many(self):
        for told in OF_COUNTS:
            for counts in ([], (), [1] * 21, (1,) * 21, [0] * 40):
                with self.subTest(told=told.__name__, counts=counts), self.assertRaises(NoGate):
                    told(counts)

    def test_what_is_no_count(self):
        for told in OF_COUNTS:
            for thing in NO_COUNT:
                for counts in ([thing], (thing,), [1, thing], (thing, 99), [0, 5, thing, 7], [1] * 19 + [thing]):
                    with self.subTest(told=told.__name__, counts=counts), self.assertRaises(NoGate):
                        told(counts)

    def test_what_is_neither_a_list_nor_a_tuple(self):
        for told in OF_COUNTS:
            for thing in (None, True, False, 0, 1, 5, 20, -1, "", "1", "12", "many", "1" * 20):
                with self.subTest(told=told.__name__, thing=thing), self.assertRaises(NoGate):
                    told(thing)

    def test_what_is_handed_in_is_as_it_was(self):
        for told in OF_COUNTS:
            for counts in ([3, 1, 2], [99, 0], [5]):
                before = list(counts)
                told(counts)
                self.assertEqual(counts, before)
            for counts in ([3, None, 2], [[3], [1]], [3, 100, 2], [7] * 21):
                before = copy.deepcopy(counts)
                with self.assertRaises(NoGate):
                    told(counts)
                self.assertEqual(counts, before)

    def test_what_is_handed_in_is_not_kept(self):
        counts = [3, 1, 2]
        self.assertEqual((mean(counts), spread(counts)), ((2, 1), 2))
        counts.append(10)
        self.assertEqual((mean(counts), spread(counts)), ((4, 1), 9))


class SameAgainTest(unittest.TestCase):
    def test_asked_the_same_again(self):
        def told_of_all():
            counts = [in_gates(row, *gates) for row in ROWS for gates in GATES]
            others = [lost(row, *gates) for row in ROWS for gates in GATES]
            return counts, others, [(mean(each), spread(each)) for each in counts]

        self.assertEqual(told_of_all(), told_of_all())


if __name__ == "__main__":
    unittest.main()
