"""[6.1] Counter with go_on, over and now, and what [0.3] says of them."""

import copy
import unittest

from gatebeats.counters import Counter
from gatebeats.errors import NoGate, NoRow
from gatebeats.gates import in_gates
from tests.helper import (
    FULL_ROW, GATES, LONGEST_GATES, NO_DEADS, NO_LENGTHS, NO_MANIES, NO_ROWS, NO_STARTS, NO_WHOLES, ROWS,
)

NO_TICKS = NO_WHOLES + [-1, -2, -9999, 10000, 10001, 99999]


def state(counter):
    return counter.over(), counter.now()


class GatesTest(unittest.TestCase):
    def test_gates_at_their_limits(self):
        for gates in GATES + LONGEST_GATES:
            with self.subTest(gates=gates):
                self.assertEqual(Counter(*gates).over(), 0)

    def test_no_gate_at_each_place(self):
        for place, things in enumerate([NO_STARTS, NO_LENGTHS, NO_DEADS, NO_MANIES]):
            for thing in things:
                for gates in ([0, 10, 2, 3], [9999, 1, 0, 1]):
                    gates[place] = thing
                    with self.subTest(place=place, gates=gates), self.assertRaises(NoGate):
                        Counter(*gates)

    def test_no_gates_at_several_places(self):
        for thing in NO_WHOLES:
            with self.subTest(thing=thing), self.assertRaises(NoGate):
                Counter(thing, thing, thing, thing)

    def test_the_last_tick_above_99999(self):
        for start, length, dead, many in LONGEST_GATES:
            for gates in [(start + 1, length, dead, many), (start, length, dead + 1, many)]:
                if max(gates) <= 9999:
                    with self.subTest(gates=gates), self.assertRaises(NoGate):
                        Counter(*gates)
        with self.assertRaises(NoGate):
            Counter(0, 5001, 0, 20)
        with self.assertRaises(NoGate):
            Counter(1, 5000, 0, 20)

    def test_what_is_handed_in_is_as_it_was(self):
        for thing in ([3, 1, 2], [[1], [2, [3]]], ([1, 2], 3)):
            before = copy.deepcopy(thing)
            for place in range(4):
                gates = [0, 10, 2, 3]
                gates[place] = thing
                with self.assertRaises(NoGate):
                    Counter(*gates)
            self.assertEqual(thing, before)


class RefusalTest(unittest.TestCase):
    def counter(self):
        """A counter within its second gate, with one beat there: gates 2 to 5, 8 to 11 and 14 to 17."""
        counter = Counter(2, 4, 2, 3)
        self.assertEqual(counter.go_on(9, (3, 4, 8)), [(0, 2)])
        self.assertEqual(state(counter), (9, 1))
        return counter

    def check_as_before(self, counter):
        self.assertEqual(state(counter), (9, 1))
        self.assertEqual(counter.go_on(10, (0, 5, 8)), [(1, 2), (2, 2)])
        self.assertEqual(state(counter), (19, None))

    def refuse(self, error, ticks, row):
        counter = self.counter()
        before = copy.deepcopy((ticks, row))
        with self.subTest(ticks=ticks, row=row):
            with self.assertRaises(error):
                counter.go_on(ticks, row)
            self.assertEqual((ticks, row), before)
            self.check_as_before(counter)

    def test_no_row(self):
        for thing in NO_ROWS:
            for ticks in (0, 1, 20, 9999):
                self.refuse(NoRow, ticks, thing)

    def test_a_beat_that_is_not_ahead_of_ticks(self):
        cases = [
            (0, (0,)), (0, (9999,)), (1, (1,)), (1, (0, 1)), (1, (0, 2)), (5, (5,)), (5, (6,)), (5, (0, 4, 5)),
            (5, (0, 1, 9999)), (9999, (9999,)), (9998, (0, 9998)), (390, FULL_ROW), (39, tuple(range(40))),
        ]
        for ticks, row in cases:
            self.refuse(NoRow, ticks, row)

    def test_such_a_beat_where_ticks_are_refused_too(self):
        for ticks in (-1, -2, -9999, -10000):
            for row in ((0,), (9999,), (1, 2), FULL_ROW):
                self.refuse(NoRow, ticks, row)

    def test_no_ticks(self):
        for thing in NO_TICKS:
            self.refuse(NoGate, thing, ())

    def test_no_ticks_beside_beats(self):
        for thing in NO_WHOLES + [10000, 10001, 99999]:
            for row in ((0,), (1,), (1, 9999), (5, 6, 7), FULL_ROW):
                self.refuse(NoGate, thing, row)

    def test_both_due(self):
        for thing in NO_TICKS:
            for row in (None, True, 5, "|", [0], (True,), (1, 1), (2, 1), (-1,), tuple(range(41)), [[()]]):
                self.refuse(NoRow, thing, row)

    def test_ahead_of_all_gates_and_behind_them(self):
        counter = Counter(3, 2, 0, 1)
        for ticks, row in [(-1, ()), (10000, ()), (None, ()), (2, (2,)), (2, [0])]:
            with self.assertRaises((NoRow, NoGate)):
                counter.go_on(ticks, row)
        self.assertEqual(state(counter), (0, None))
        self.assertEqual(counter.go_on(9, (2, 3)), [(0, 1)])
        for ticks, row in [(-1, ()), (10000, ()), (None, ()), (2, (2,)), (2, [0])]:
            with self.assertRaises((NoRow, NoGate)):
                counter.go_on(ticks, row)
        self.assertEqual(state(counter), (9, None))


class OverTest(unittest.TestCase):
    def test_at_first(self):
        for gates in GATES:
            self.assertEqual(Counter(*gates).over(), 0)

    def test_behind_no_ticks(self):
        counter = Counter(0, 3, 1, 2)
        self.assertEqual(counter.go_on(0, ()), [])
        self.assertEqual(state(counter), (0, 0))
        counter.go_on(5, ())
        self.assertEqual(counter.go_on(0, ()), [])
        self.assertEqual(state(counter), (5, 0))

    def test_ticks_come_together(self):
        counter = Counter(0, 3, 1, 2)
        for ticks, over in [(1, 1), (0, 1), (9999, 10000), (9999, 19999), (7, 20006)]:
            counter.go_on(ticks, ())
            self.assertEqual(counter.over(), over)

    def test_beyond_the_last_gate(self):
        counter = Counter(0, 1, 0, 1)
        for step in range(1, 13):
            self.assertEqual(counter.go_on(9999, (0, 9998)), [(0, 1)] if step == 1 else [])
            self.assertEqual(state(counter), (step * 9999, None))

    def test_asked_again(self):
        counter = Counter(0, 9, 1, 2)
        counter.go_on(4, (2,))
        self.assertEqual([state(counter) for time in range(3)], [(4, 1)] * 3)


class NowTest(unittest.TestCase):
    def test_at_first(self):
        self.assertIs(type(Counter(0, 3, 1, 2).now()), int)
        self.assertEqual(Counter(0, 3, 1, 2).now(), 0)
        self.assertIsNone(Counter(1, 3, 1, 2).now())
        self.assertIsNone(Counter(9999, 1, 0, 1).now())

    def check_ticks(self, gates, row, due):
        """What now tells ahead of each tick, where each step is of one tick and has the beats of the row."""
        counter = Counter(*gates)
        told = []
        for tick in due:
            told.append(counter.now())
            counter.go_on(1, row)
        self.assertEqual(told, due)

    def test_tick_by_tick(self):
        # Gates 2 to 4 and 7 to 9, dead 5 and 6.
        self.check_ticks((2, 3, 2, 2), (0,), [None, None, 0, 1, 2, None, None, 0, 1, 2, None, None, None])
        self.check_ticks((2, 3, 2, 2), (), [None, None, 0, 0, 0, None, None, 0, 0, 0, None])

    def test_tick_by_tick_without_dead_ticks(self):
        self.check_ticks((1, 2, 0, 3), (0,), [None, 0, 1, 0, 1, 0, 1, None, None])

    def test_beats_ahead_of_the_gate_do_not_count(self):
        counter = Counter(5, 5, 5, 2)
        counter.go_on(5, (0, 1, 4))
        self.assertEqual(counter.now(), 0)
        counter.go_on(4, (0, 3))
        self.assertEqual(counter.now(), 2)
        counter.go_on(1, (0,))
        self.assertIsNone(counter.now())
        counter.go_on(5, (0, 1, 2, 3, 4))
        self.assertEqual(counter.now(), 0)
        counter.go_on(1, (0,))
        self.assertEqual(counter.now(), 1)

    def test_gates_of_one_tick(self):
        counter = Counter(0, 1, 0, 2)
        self.assertEqual(counter.now(), 0)
        counter.go_on(1, (0,))
        self.assertEqual(counter.now(), 0)
        counter.go_on(1, ())
        self.assertIsNone(counter.now())


class GoOnTest(unittest.TestCase):
    def test_no_ticks_and_one(self):
        counter = Counter(0, 1, 0, 2)
        self.assertEqual(counter.go_on(0, ()), [])
        self.assertEqual(counter.go_on(1, (0,)), [(0, 1)])
        self.assertEqual(counter.go_on(0, ()), [])
        self.assertEqual(counter.go_on(1, ()), [(1, 0)])
        self.assertEqual(counter.go_on(1, (0,)), [])

    def test_9999_ticks(self):
        counter = Counter(0, 9999, 0, 2)
        self.assertEqual(counter.go_on(9999, (0, 5, 9998)), [(0, 3)])
        self.assertEqual(state(counter), (9999, 0))
        self.assertEqual(counter.go_on(9999, (9998,)), [(1, 1)])
        self.assertEqual(state(counter), (19998, None))

    def test_none_one_several_and_all_gates_end(self):
        # Gates 10 to 14, 18 to 22 and 26 to 30.
        row = (0, 9, 10, 14, 15, 17, 18, 22, 23, 25, 26, 30, 31)
        ends = {
            9: [], 10: [], 14: [], 15: [(0, 2)], 16: [(0, 2)], 22: [(0, 2)], 23: [(0, 2), (1, 2)],
            30: [(0, 2), (1, 2)], 31: [(0, 2), (1, 2), (2, 2)], 32: [(0, 2), (1, 2), (2, 2)],
            9999: [(0, 2), (1, 2), (2, 2)],
        }
        for ticks, due in ends.items():
            counter = Counter(10, 5, 3, 3)
            with self.subTest(ticks=ticks):
                self.assertEqual(counter.go_on(ticks, tuple([beat for beat in row if beat < ticks])), due)

    def test_all_twenty_in_one_step(self):
        counter = Counter(0, 10, 0, 20)
        self.assertEqual(counter.go_on(9999, FULL_ROW), [(number, 1) for number in range(20)])
        counter = Counter(0, 20, 0, 20)
        self.assertEqual(counter.go_on(400, FULL_ROW), [(number, 2) for number in range(20)])

    def test_a_gate_that_ends_with_the_first_tick(self):
        counter = Counter(2, 3, 0, 2)
        self.assertEqual(counter.go_on(4, (2,)), [])
        self.assertEqual(counter.go_on(1, (0,)), [(0, 2)])
        self.assertEqual(counter.go_on(2, ()), [])
        self.assertEqual(counter.go_on(9999, (0, 1, 2)), [(1, 1)])

    def test_a_gate_that_ends_with_the_last_tick(self):
        counter = Counter(2, 3, 0, 2)
        self.assertEqual(counter.go_on(5, (1, 2, 4)), [(0, 2)])
        self.assertEqual(counter.go_on(3, (2,)), [(1, 1)])
        self.assertEqual(counter.go_on(3, (0, 2)), [])

    def test_a_beat_at_each_place(self):
        # Ahead of the first gate, in its first and last tick, dead, in the last gate, behind it.
        due = {9: (0, 0), 10: (1, 0), 14: (1, 0), 15: (0, 0), 17: (0, 0), 18: (0, 1), 22: (0, 1), 23: (0, 0), 24: (0, 0)}
        for tick, (first, second) in due.items():
            for parts in ([30], [12, 18], [10, 5, 15], [1] * 30, [0, 15, 0, 0, 8, 7]):
                counter = Counter(10, 5, 3, 2)
                told, at = [], 0
                for ticks in parts:
                    told += counter.go_on(ticks, (tick - at,) if at <= tick < at + ticks else ())
                    at += ticks
                with self.subTest(tick=tick, parts=parts):
                    self.assertEqual(told, [(0, first), (1, second)])

    def test_a_gate_in_several_steps(self):
        counter = Counter(5, 100, 0, 1)
        for step in range(10):
            self.assertEqual(counter.go_on(10, (0, 5, 9)), [])
        # The first step has two beats in the gate, in ticks 5 and 9.
        self.assertEqual(counter.now(), 29)
        self.assertEqual(counter.go_on(5, (0, 4)), [(0, 31)])

    def test_more_than_40_beats_in_one_gate(self):
        counter = Counter(0, 9999, 0, 1)
        for step in range(9):
            self.assertEqual(counter.go_on(1000, tuple(range(40))), [])
            self.assertEqual(counter.now(), 40 * (step + 1))
        self.assertEqual(counter.go_on(999, (998,)), [(0, 361)])

    def test_gates_behind_tick_9999(self):
        counter = Counter(9999, 1, 9999, 10)
        told = []
        for step in range(10):
            told += counter.go_on(9999, (0,))
        self.assertEqual(told, [(number, 1 if number == 0 else 0) for number in range(9)])
        self.assertEqual(counter.go_on(9, ()), [])
        self.assertEqual(state(counter), (99999, 0))
        self.assertEqual(counter.go_on(1, (0,)), [(9, 1)])
        self.assertEqual(state(counter), (100000, None))

    def test_each_gate_is_told_once(self):
        counter = Counter(0, 2, 0, 3)
        self.assertEqual(counter.go_on(4, (0, 3)), [(0, 1), (1, 1)])
        self.assertEqual(counter.go_on(0, ()), [])
        self.assertEqual(counter.go_on(9, (0, 1, 2)), [(2, 2)])
        self.assertEqual(counter.go_on(0, ()), [])
        self.assertEqual(counter.go_on(9, (0, 1, 2)), [])

    def test_against_in_gates_in_one_step(self):
        for row in ROWS:
            for gates in GATES:
                start, length, dead, many = gates
                ends = [start + place * (length + dead) + length for place in range(many)]
                counter = Counter(*gates)
                beats = tuple([beat for beat in row if beat < 9999])
                due = [pair for pair, end in zip(enumerate(in_gates(beats, *gates)), ends) if end <= 9999]
                with self.subTest(row=row, gates=gates):
                    self.assertEqual(counter.go_on(9999, beats), due)


class ToldListsTest(unittest.TestCase):
    def test_a_list_of_tuples(self):
        counter = Counter(0, 2, 1, 3)
        for ticks in (0, 2, 9):
            told = counter.go_on(ticks, ())
            self.assertIs(type(told), list)
            for pair in told:
                self.assertIs(type(pair), tuple)
                self.assertEqual([type(part) for part in pair], [int, int])

    def test_a_told_list_may_be_changed(self):
        counter, other = Counter(0, 2, 1, 3), Counter(0, 2, 1, 3)
        for ticks, row in [(0, ()), (2, (0, 1)), (2, (1,)), (1, (0,)), (9, (0, 2)), (3, ())]:
            told = counter.go_on(ticks, row)
            self.assertEqual(told, other.go_on(ticks, row))
            told.append((7, 7))
            told[0] = None
            self.assertEqual(state(counter), state(other))


class TwoCountersTest(unittest.TestCase):
    def test_two_counters_go_by_themselves(self):
        one, other = Counter(0, 3, 1, 2), Counter(0, 3, 1, 2)
        self.assertEqual(one.go_on(2, (0, 1)), [])
        self.assertEqual((state(one), state(other)), ((2, 2), (0, 0)))
        self.assertEqual(other.go_on(3, (2,)), [(0, 1)])
        self.assertEqual((state(one), state(other)), ((2, 2), (3, None)))
        self.assertEqual(one.go_on(5, ()), [(0, 2), (1, 0)])
        self.assertEqual((state(one), state(other)), ((7, None), (3, None)))
        self.assertEqual(other.go_on(4, (1, 2, 3)), [(1, 3)])

    def test_a_new_counter_is_as_the_first_one_was(self):
        Counter(0, 3, 1, 2).go_on(6, (0, 1, 2, 4, 5))
        counter = Counter(0, 3, 1, 2)
        self.assertEqual(state(counter), (0, 0))
        self.assertEqual(counter.go_on(9999, ()), [(0, 0), (1, 0)])


if __name__ == "__main__":
    unittest.main()
