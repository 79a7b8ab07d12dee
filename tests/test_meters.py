"""[10.1] Meter with beats, rest, clock, held and word, [10.2] its back, forth, steps and twin."""

import copy
import unittest

from gatebeats.errors import NoBack, NoGate
from gatebeats.meters import Meter
from tests.helper import NO_LENGTHS, NO_WHOLES

NO_BOUNDS = NO_WHOLES + [-1, -9999, 10000, 10001, 99999]
NO_MANY = NO_WHOLES + [0, -1, -9, 10, 11, 99, 9999]
NO_RESTS = NO_WHOLES + [0, -1, -99, 100, 101, 9999]


def state(meter):
    return meter.clock(), meter.held(), meter.word()


def whole_state(meter):
    return state(meter) + meter.steps()


class MeterTest(unittest.TestCase):
    def test_lengths(self):
        self.assertEqual(state(Meter(1, 0, 0)), (0, 0, ""))
        self.assertEqual(state(Meter(9999, 0, 0)), (0, 0, ""))
        for length in NO_LENGTHS:
            with self.subTest(length=length), self.assertRaises(NoGate):
                Meter(length, 2, 5)

    def test_low_and_high(self):
        for low, high in [(0, 0), (0, 9999), (9999, 9999), (3, 3), (3, 4), (0, 1), (9998, 9999)]:
            self.assertEqual(state(Meter(5, low, high)), (0, 0, ""))

    def test_low_above_high(self):
        for low, high in [(1, 0), (4, 3), (9999, 0), (9999, 9998)]:
            with self.subTest(low=low, high=high), self.assertRaises(NoGate):
                Meter(5, low, high)

    def test_no_low_and_no_high(self):
        for thing in NO_BOUNDS:
            with self.subTest(thing=thing):
                for bounds in [(thing, 9999), (0, thing), (thing, 0), (9999, thing), (thing, thing)]:
                    with self.assertRaises(NoGate):
                        Meter(5, *bounds)
                with self.assertRaises(NoGate):
                    Meter(thing, thing, thing)

    def test_what_is_handed_in_is_as_it_was(self):
        for thing in ([3, 1, 2], [[1], [2, [3]]], ([1, 2], 3)):
            before = copy.deepcopy(thing)
            for told in [(thing, 1, 2), (5, thing, 2), (5, 1, thing)]:
                with self.assertRaises(NoGate):
                    Meter(*told)
            self.assertEqual(thing, before)

    def test_at_first(self):
        for low in (0, 1, 5):
            meter = Meter(4, low, 7)
            with self.subTest(low=low):
                self.assertEqual(whole_state(meter), (0, 0, "", 0, 0))


class WordsTest(unittest.TestCase):
    def test_behind_the_first_tick(self):
        cases = [
            # low, high, many, word
            (0, 0, 1, "many"), (1, 1, 1, ""), (2, 2, 1, "few"), (0, 1, 1, ""), (1, 8, 9, "many"), (1, 9, 9, ""),
            (9, 9, 9, ""), (9, 9, 8, "few"), (0, 9999, 9, ""), (9999, 9999, 9, "few"),
        ]
        for low, high, many, word in cases:
            meter = Meter(3, low, high)
            with self.subTest(low=low, high=high, many=many):
                self.assertEqual(meter.beats(many), [(0, word)] if word else [])
                self.assertEqual(state(meter), (1, many, word))

    def test_a_rest_at_first(self):
        meter = Meter(3, 1, 5)
        self.assertEqual(meter.rest(1), [(0, "few")])
        self.assertEqual(state(meter), (1, 0, "few"))
        meter = Meter(3, 1, 5)
        self.assertEqual(meter.rest(99), [(0, "few")])
        self.assertEqual(state(meter), (99, 0, "few"))
        meter = Meter(3, 0, 5)
        self.assertEqual(meter.rest(99), [])
        self.assertEqual(state(meter), (99, 0, ""))

    def test_ticks_go_on_from_step_to_step(self):
        # The last three ticks are to have one to three beats.
        meter = Meter(3, 1, 3)
        steps = [
            ("beats", 1, [], (1, 1, "")), ("beats", 2, [], (2, 3, "")), ("beats", 1, [(2, "many")], (3, 4, "many")),
            ("beats", 1, [], (4, 4, "many")), ("rest", 1, [(4, "")], (5, 2, "")), ("rest", 1, [], (6, 1, "")),
            ("rest", 1, [(6, "few")], (7, 0, "few")), ("rest", 9, [], (16, 0, "few")),
            ("beats", 1, [(16, "")], (17, 1, "")), ("beats", 9, [(17, "many")], (18, 10, "many")),
            ("rest", 5, [(20, "few")], (23, 0, "few")),
        ]
        for name, number, due, behind in steps:
            told = meter.beats(number) if name == "beats" else meter.rest(number)
            with self.subTest(behind=behind):
                self.assertEqual(told, due)
                self.assertEqual(state(meter), behind)

    def test_old_beats_are_out_within_a_rest(self):
        meter = Meter(10, 0, 2)
        self.assertEqual(meter.beats(3), [(0, "many")])
        # The last ten ticks behind tick 9 still have the first one, those behind tick 10 have it no more.
        self.assertEqual(meter.rest(8), [])
        self.assertEqual(state(meter), (9, 3, "many"))
        self.assertEqual(meter.rest(1), [])
        self.assertEqual(state(meter), (10, 3, "many"))
        self.assertEqual(meter.rest(1), [(10, "")])
        self.assertEqual(state(meter), (11, 0, ""))
        meter = Meter(10, 0, 2)
        meter.beats(3)
        self.assertEqual(meter.rest(99), [(10, "")])
        self.assertEqual(state(meter), (100, 0, ""))

    def test_several_changes_within_one_rest(self):
        meter = Meter(5, 3, 5)
        self.assertEqual(meter.beats(2), [(0, "few")])
        self.assertEqual(meter.beats(3), [(1, "")])
        self.assertEqual(meter.beats(4), [(2, "many")])
        # 9 in ticks 0 to 4, 7 in 1 to 5, 4 in 2 to 6, none in 3 to 7.
        self.assertEqual(meter.rest(20), [(6, ""), (7, "few")])
        self.assertEqual(state(meter), (23, 0, "few"))

    def test_from_many_to_few_at_once(self):
        meter = Meter(2, 3, 3)
        self.assertEqual(meter.beats(9), [(0, "many")])
        self.assertEqual(meter.rest(99), [(2, "few")])
        self.assertEqual(meter.beats(3), [(100, "")])
        self.assertEqual(meter.beats(1), [(101, "many")])
        self.assertEqual(meter.beats(1), [(102, "few")])

    def test_length_1(self):
        meter = Meter(1, 1, 1)
        self.assertEqual(meter.beats(1), [])
        self.assertEqual(meter.beats(2), [(1, "many")])
        self.assertEqual(meter.rest(3), [(2, "few")])
        self.assertEqual(meter.beats(1), [(5, "")])
        self.assertEqual(state(meter), (6, 1, ""))

    def test_length_9999(self):
        meter = Meter(9999, 0, 4)
        self.assertEqual(meter.beats(5), [(0, "many")])
        for step in range(100):
            self.assertEqual(meter.rest(99), [])
        self.assertEqual(state(meter), (9901, 5, "many"))
        self.assertEqual(meter.rest(98), [])
        self.assertEqual(state(meter), (9999, 5, "many"))
        self.assertEqual(meter.rest(2), [(9999, "")])
        self.assertEqual(state(meter), (10001, 0, ""))

    def test_many_beats_are_held(self):
        meter = Meter(9999, 0, 8999)
        for step in range(1, 1000):
            self.assertEqual(meter.beats(9), [])
        self.assertEqual(meter.held(), 8991)
        self.assertEqual(meter.beats(8), [])
        self.assertEqual(meter.beats(1), [(1000, "many")])

    def test_from_1_to_9_beats_and_to_99_ticks(self):
        meter = Meter(200, 0, 9999)
        together = clock = 0
        for number in range(1, 10):
            self.assertEqual(meter.beats(number), [])
            together, clock = together + number, clock + 1
            self.assertEqual(state(meter), (clock, together, ""))
        for number in (1, 2, 98):
            self.assertEqual(meter.rest(number), [])
            clock += number
            self.assertEqual(state(meter), (clock, together, ""))
        self.assertEqual(Meter(200, 0, 0).rest(99), [])

    def test_asked_again(self):
        meter = Meter(3, 1, 3)
        meter.beats(9)
        self.assertEqual([whole_state(meter) for time in range(3)], [(1, 9, "many", 1, 0)] * 3)

    def test_kinds(self):
        meter = Meter(3, 1, 3)
        for told in (meter.beats(9), meter.rest(9), meter.beats(1), meter.rest(1)):
            self.assertIs(type(told), list)
            for pair in told:
                self.assertIs(type(pair), tuple)
                self.assertEqual([type(part) for part in pair], [int, str])
        self.assertIs(type(meter.steps()), tuple)

    def test_a_told_list_may_be_changed(self):
        meter, other = Meter(2, 1, 3), Meter(2, 1, 3)
        for name, number in [("beats", 9), ("rest", 3), ("rest", 1), ("beats", 1), ("beats", 1), ("rest", 99)]:
            told = getattr(meter, name)(number)
            self.assertEqual(told, getattr(other, name)(number))
            told.append((7, "few"))
            told[0] = None
            self.assertEqual(whole_state(meter), whole_state(other))


class RefusalTest(unittest.TestCase):
    def meter(self):
        """A meter with two steps to take back, and one to do again."""
        meter = Meter(3, 1, 3)
        for told, due in [(meter.beats(9), [(0, "many")]), (meter.rest(1), []), (meter.rest(5), [(3, "few")])]:
            self.assertEqual(told, due)
        self.assertEqual(meter.back(), "rest")
        return meter

    def check_as_before(self, meter):
        self.assertEqual(whole_state(meter), (2, 9, "many", 2, 1))
        self.assertEqual(meter.forth(), "rest")
        self.assertEqual(whole_state(meter), (7, 0, "few", 3, 0))
        self.assertEqual([meter.back(), meter.back(), meter.back()], ["rest", "rest", "beats"])
        self.assertEqual(whole_state(meter), (0, 0, "", 0, 3))

    def check_refused(self, name, number):
        meter = self.meter()
        before = copy.deepcopy(number)
        with self.subTest(name=name, number=number):
            with self.assertRaises(NoGate):
                getattr(meter, name)(number)
            self.assertEqual(number, before)
            self.check_as_before(meter)

    def test_no_beats(self):
        for many in NO_MANY:
            self.check_refused("beats", many)

    def test_no_rest(self):
        for ticks in NO_RESTS:
            self.check_refused("rest", ticks)

    def test_no_back(self):
        meter = Meter(3, 1, 3)
        for time in range(2):
            self.assertRaises(NoBack, meter.back)
            self.assertRaises(NoBack, meter.forth)
            self.assertEqual(whole_state(meter), (0, 0, "", 0, 0))
        meter.beats(5)
        meter.rest(2)
        self.assertRaises(NoBack, meter.forth)
        self.assertEqual(whole_state(meter), (3, 5, "many", 2, 0))
        meter.back()
        meter.back()
        self.assertRaises(NoBack, meter.back)
        self.assertEqual(whole_state(meter), (0, 0, "", 0, 2))
        self.assertEqual([meter.forth(), meter.forth()], ["beats", "rest"])
        self.assertRaises(NoBack, meter.forth)
        self.assertEqual(whole_state(meter), (3, 5, "many", 2, 0))


class BackAndForthTest(unittest.TestCase):
    STEPS = [("beats", 2), ("rest", 4), ("beats", 9), ("beats", 1), ("rest", 1), ("rest", 99), ("beats", 3), ("rest", 2)]

    def test_through_all_steps(self):
        meter = Meter(3, 1, 3)
        states = [state(meter)]
        for name, number in self.STEPS:
            getattr(meter, name)(number)
            states.append(state(meter))
        for time in range(3):
            for left in range(len(self.STEPS), 0, -1):
                self.assertEqual(meter.steps(), (left, len(self.STEPS) - left))
                self.assertEqual(meter.back(), self.STEPS[left - 1][0])
                self.assertEqual(state(meter), states[left - 1])
            self.assertRaises(NoBack, meter.back)
            self.assertEqual(whole_state(meter), (0, 0, "", 0, len(self.STEPS)))
            for done in range(len(self.STEPS)):
                self.assertEqual(meter.steps(), (done, len(self.STEPS) - done))
                self.assertEqual(meter.forth(), self.STEPS[done][0])
                self.assertEqual(state(meter), states[done + 1])
            self.assertRaises(NoBack, meter.forth)
            self.assertEqual(meter.steps(), (len(self.STEPS), 0))

    def test_forth_behind_another_step(self):
        for name, number in [("beats", 1), ("rest", 1)]:
            meter = Meter(3, 1, 3)
            meter.beats(9)
            meter.rest(5)
            meter.back()
            self.assertEqual(meter.steps(), (1, 1))
            getattr(meter, name)(number)
            with self.subTest(name=name):
                self.assertEqual(meter.steps(), (2, 0))
                self.assertRaises(NoBack, meter.forth)
                self.assertEqual([meter.back(), meter.back()], [name, "beats"])
                self.assertEqual(meter.steps(), (0, 2))
                self.assertEqual([meter.forth(), meter.forth()], ["beats", name])

    def test_forth_behind_the_same_step_again(self):
        meter = Meter(3, 1, 3)
        meter.beats(9)
        meter.back()
        meter.beats(9)
        self.assertEqual(meter.steps(), (1, 0))
        self.assertRaises(NoBack, meter.forth)

    def test_some_back_and_some_forth(self):
        meter = Meter(3, 1, 3)
        for many in range(1, 6):
            meter.beats(many)
        for told, due in [("back", (4, 9, "many", 4, 1)), ("back", (3, 6, "many", 3, 2)), ("forth", (4, 9, "many", 4, 1)),
                          ("back", (3, 6, "many", 3, 2)), ("back", (2, 3, "", 2, 3)), ("forth", (3, 6, "many", 3, 2))]:
            self.assertEqual(getattr(meter, told)(), "beats")
            self.assertEqual(whole_state(meter), due)

    def test_what_a_step_done_behind_back_tells(self):
        meter = Meter(3, 1, 3)
        meter.beats(1)
        self.assertEqual(meter.beats(5), [(1, "many")])
        meter.back()
        self.assertEqual(meter.beats(5), [(1, "many")])
        meter.back()
        self.assertEqual(meter.beats(1), [])
        meter.back()
        meter.back()
        # The word is that of before the first tick again.
        self.assertEqual(meter.rest(1), [(0, "few")])
        meter.back()
        self.assertEqual(state(meter), (0, 0, ""))
        self.assertEqual(meter.rest(2), [(0, "few")])

    def test_what_a_step_done_behind_forth_tells(self):
        meter = Meter(3, 1, 3)
        meter.beats(5)
        meter.rest(2)
        meter.back()
        meter.forth()
        self.assertEqual(meter.rest(1), [(3, "few")])

    def test_a_rest_is_taken_back_whole(self):
        meter = Meter(5, 1, 3)
        meter.beats(9)
        meter.rest(99)
        self.assertEqual(whole_state(meter), (100, 0, "few", 2, 0))
        meter.back()
        self.assertEqual(whole_state(meter), (1, 9, "many", 1, 1))
        self.assertEqual(meter.rest(98), [(5, "few")])


class TwinTest(unittest.TestCase):
    def meter(self):
        meter = Meter(3, 1, 3)
        meter.beats(9)
        meter.rest(1)
        meter.beats(1)
        meter.rest(7)
        meter.back()
        meter.back()
        return meter

    def test_as_this_one(self):
        meter = self.meter()
        other = meter.twin()
        self.assertIs(type(other), Meter)
        self.assertIsNot(other, meter)
        self.assertEqual(whole_state(other), (2, 9, "many", 2, 2))
        self.assertEqual([other.forth(), other.forth()], ["beats", "rest"])
        self.assertEqual(whole_state(other), (10, 0, "few", 4, 0))
        self.assertEqual([other.back() for time in range(4)], ["rest", "beats", "rest", "beats"])
        self.assertEqual(whole_state(other), (0, 0, "", 0, 4))
        self.assertEqual(whole_state(meter), (2, 9, "many", 2, 2))

    def test_the_same_length_low_and_high(self):
        for told in [(1, 0, 0), (3, 1, 3), (4, 2, 2), (9999, 5, 9999)]:
            meter, other = Meter(*told), Meter(*told).twin()
            for many in (1, 2, 9, 1, 1, 3):
                self.assertEqual(meter.beats(many), other.beats(many))
            self.assertEqual(meter.rest(50), other.rest(50))
            self.assertEqual(whole_state(meter), whole_state(other))

    def check_step(self, told):
        """A step of either one leaves the other as it was."""
        for place in (0, 1):
            meter = self.meter()
            both = [meter, meter.twin()]
            told(both[place])
            left = both[1 - place]
            self.assertNotEqual(whole_state(both[place]), (2, 9, "many", 2, 2))
            self.assertEqual(whole_state(left), (2, 9, "many", 2, 2))
            self.assertEqual([left.forth(), left.forth()], ["beats", "rest"])
            self.assertEqual(whole_state(left), (10, 0, "few", 4, 0))
            self.assertEqual([left.back() for time in range(4)], ["rest", "beats", "rest", "beats"])

    def test_each_goes_by_itself(self):
        for told in (lambda meter: meter.beats(4), lambda meter: meter.rest(4), Meter.back, Meter.forth):
            self.check_step(told)

    def test_a_twin_of_a_twin(self):
        meter = self.meter()
        other = meter.twin().twin()
        meter.back()
        self.assertEqual(whole_state(other), (2, 9, "many", 2, 2))
        self.assertEqual(other.beats(3), [])
        self.assertEqual(whole_state(other), (3, 12, "many", 3, 0))
        self.assertEqual(whole_state(meter), (1, 9, "many", 1, 3))

    def test_of_a_new_one(self):
        meter = Meter(3, 1, 3)
        other = meter.twin()
        meter.beats(9)
        self.assertEqual(whole_state(other), (0, 0, "", 0, 0))
        self.assertRaises(NoBack, other.back)
        self.assertRaises(NoBack, other.forth)


class TwoMetersTest(unittest.TestCase):
    def test_two_meters_go_by_themselves(self):
        one, other = Meter(3, 1, 3), Meter(3, 1, 3)
        one.beats(9)
        one.rest(2)
        one.back()
        self.assertEqual(whole_state(other), (0, 0, "", 0, 0))
        other.rest(1)
        self.assertEqual(whole_state(one), (1, 9, "many", 1, 1))
        self.assertEqual(whole_state(other), (1, 0, "few", 1, 0))


if __name__ == "__main__":
    unittest.main()
