"""[11.1] Tape and its methods, [11.2] tape_text and read_tape, and what [0.3] says of them."""

import copy
import unittest

from gatebeats.errors import NoBack, NoGate, NoText
from gatebeats.tapes import Tape, read_tape, tape_text
from tests.helper import FULL_ROW, NO_LENGTHS, NO_STARTS, NO_WHOLES, ROWS

GATED = ["rub", "insert", "cut"]


def tape_of(row):
    tape = Tape()
    for tick in row:
        tape.put(tick)
    return tape


def whole_state(tape):
    return tape.row(), tape.steps()


class TapeTest(unittest.TestCase):
    def check_step(self, row, name, told, due):
        """A step of a tape with this row tells how many beats there are then, in the row that is due."""
        tape = tape_of(row)
        with self.subTest(row=row, name=name, told=told):
            self.assertEqual(getattr(tape, name)(*told), len(due))
            self.assertEqual(tape.row(), due)
            self.assertEqual(tape.steps(), (len(row) + 1, 0))

    def check_refused(self, row, name, told):
        """A refused step leaves the row, and what can be taken back and done again."""
        tape = tape_of(row)
        tape.rub(0, 9999)
        tape.back()
        before = copy.deepcopy(told)
        with self.subTest(row=row, name=name, told=told):
            with self.assertRaises(NoGate):
                getattr(tape, name)(*told)
            self.assertEqual(told, before)
            self.assertEqual(whole_state(tape), (row, (len(row), 1)))
            self.assertEqual(tape.forth(), "rub")
            self.assertEqual(tape.row(), tuple([beat for beat in row if beat == 9999]))
            self.assertEqual([tape.back() for step in range(len(row) + 1)], ["rub"] + ["put"] * len(row))


class NewTest(unittest.TestCase):
    def test_an_empty_row(self):
        tape = Tape()
        self.assertEqual(whole_state(tape), ((), (0, 0)))
        self.assertIs(type(tape.row()), tuple)

    def test_two_tapes_go_by_themselves(self):
        one, other = Tape(), Tape()
        one.put(5)
        self.assertEqual(whole_state(other), ((), (0, 0)))
        other.put(7)
        other.back()
        self.assertEqual(whole_state(one), ((5,), (1, 0)))
        self.assertEqual(whole_state(other), ((), (0, 1)))


class PutTest(TapeTest):
    def test_ticks(self):
        for tick in (0, 1, 5000, 9998, 9999):
            self.check_step((), "put", (tick,), (tick,))

    def test_no_ticks(self):
        for row in [(), (5,), FULL_ROW]:
            for tick in NO_STARTS:
                self.check_refused(row, "put", (tick,))

    def test_ahead_between_and_behind(self):
        self.check_step((5, 9), "put", (0,), (0, 5, 9))
        self.check_step((5, 9), "put", (4,), (4, 5, 9))
        self.check_step((5, 9), "put", (7,), (5, 7, 9))
        self.check_step((5, 9), "put", (10,), (5, 9, 10))
        self.check_step((5, 9, 1000), "put", (999,), (5, 9, 999, 1000))

    def test_where_there_is_one(self):
        self.check_step((5, 9), "put", (5,), (5, 9))
        self.check_step((0,), "put", (0,), (0,))
        self.check_step((9999,), "put", (9999,), (9999,))

    def test_where_there_is_one_of_40(self):
        for tick in (0, 200, 390):
            self.check_step(FULL_ROW, "put", (tick,), FULL_ROW)

    def test_the_40th_and_the_41st(self):
        self.check_step(FULL_ROW[:-1], "put", (9999,), FULL_ROW[:-1] + (9999,))
        for tick in (1, 205, 389, 391, 9999):
            self.check_refused(FULL_ROW, "put", (tick,))

    def test_in_any_order(self):
        tape = Tape()
        told = [tape.put(tick) for tick in (9, 3, 9999, 0, 3, 1000, 20)]
        self.assertEqual(told, [1, 2, 3, 4, 4, 5, 6])
        self.assertEqual(tape.row(), (0, 3, 9, 20, 1000, 9999))


class GatesTest(TapeTest):
    def test_no_start(self):
        for name in GATED:
            for row in [(), (5, 9)]:
                for start in NO_STARTS:
                    self.check_refused(row, name, (start, 1))

    def test_no_length(self):
        for name in GATED:
            for row in [(), (5, 9)]:
                for length in NO_LENGTHS:
                    self.check_refused(row, name, (0, length))

    def test_neither(self):
        for name in GATED:
            for thing in NO_WHOLES:
                self.check_refused((5, 9), name, (thing, thing))

    def test_gates_at_their_limits(self):
        for name in GATED:
            for start in (0, 9999):
                for length in (1, 9999):
                    self.check_step((), name, (start, length), ())


class RubTest(TapeTest):
    def test_the_first_and_the_last_tick(self):
        # Ticks 10 to 14.
        for tick, due in [(9, (9,)), (10, ()), (12, ()), (14, ()), (15, (15,))]:
            self.check_step((tick,), "rub", (10, 5), due)
        self.check_step((8, 9, 10, 12, 14, 15, 16), "rub", (10, 5), (8, 9, 15, 16))

    def test_without_beats_in_the_gate(self):
        self.check_step((5, 20), "rub", (10, 5), (5, 20))
        self.check_step((), "rub", (10, 5), ())

    def test_limits(self):
        self.check_step((0, 1, 9998, 9999), "rub", (0, 1), (1, 9998, 9999))
        self.check_step((0, 1, 9998, 9999), "rub", (0, 9999), (9999,))
        self.check_step((0, 1, 9998, 9999), "rub", (1, 9999), (0,))
        self.check_step((0, 1, 9998, 9999), "rub", (9999, 1), (0, 1, 9998))
        self.check_step((0, 1, 9998, 9999), "rub", (9999, 9999), (0, 1, 9998))
        self.check_step(FULL_ROW, "rub", (0, 9999), ())


class InsertTest(TapeTest):
    def test_in_tick_start_and_behind_it(self):
        for tick, due in [(9, 9), (10, 15), (11, 16), (15, 20)]:
            self.check_step((tick,), "insert", (10, 5), (due,))
        self.check_step((8, 9, 10, 11, 14, 15), "insert", (10, 5), (8, 9, 15, 16, 19, 20))

    def test_behind_all_beats(self):
        self.check_step((5, 9), "insert", (10, 9999), (5, 9))
        self.check_step((5, 9), "insert", (9999, 9999), (5, 9))
        self.check_step((), "insert", (0, 9999), ())

    def test_the_last_beat_at_9999_and_just_above(self):
        self.check_step((5, 9), "insert", (9, 9990), (5, 9999))
        self.check_step((5, 9), "insert", (0, 9990), (9995, 9999))
        self.check_step((0,), "insert", (0, 9999), (9999,))
        self.check_refused((5, 9), "insert", (9, 9991))
        self.check_refused((5, 9), "insert", (0, 9991))
        self.check_refused((1,), "insert", (0, 9999))
        self.check_refused((1,), "insert", (1, 9999))
        self.check_refused((9999,), "insert", (0, 1))
        self.check_refused((0, 9999), "insert", (9999, 1))
        self.check_refused(FULL_ROW, "insert", (390, 9610))
        self.check_step(FULL_ROW, "insert", (390, 9609), FULL_ROW[:-1] + (9999,))


class CutTest(TapeTest):
    def test_just_ahead_in_it_and_just_behind(self):
        # Ticks 10 to 14.
        for tick, due in [(9, (9,)), (10, ()), (12, ()), (14, ()), (15, (10,)), (16, (11,))]:
            self.check_step((tick,), "cut", (10, 5), due)
        self.check_step((8, 9, 10, 12, 14, 15, 16, 99), "cut", (10, 5), (8, 9, 10, 11, 94))

    def test_without_beats_in_the_gate(self):
        self.check_step((5, 20), "cut", (10, 5), (5, 15))
        self.check_step((5, 9), "cut", (10, 5), (5, 9))
        self.check_step((), "cut", (10, 5), ())

    def test_limits(self):
        self.check_step((0, 1, 9998, 9999), "cut", (0, 1), (0, 9997, 9998))
        self.check_step((0, 1, 9998, 9999), "cut", (0, 9999), (0,))
        self.check_step((0, 1, 9998, 9999), "cut", (1, 9999), (0,))
        self.check_step((0, 1, 9998, 9999), "cut", (9999, 1), (0, 1, 9998))
        self.check_step((0, 1, 9998, 9999), "cut", (9999, 9999), (0, 1, 9998))

    def test_cut_what_was_inserted(self):
        for start in (0, 1, 5, 9, 10, 50):
            for length in (1, 3, 100):
                tape = tape_of((1, 4, 9, 16, 25))
                tape.insert(start, length)
                self.assertEqual(tape.cut(start, length), 5)
                self.assertEqual(tape.row(), (1, 4, 9, 16, 25))


STEPS = [
    ("put", (9,)), ("put", (3,)), ("put", (9,)), ("put", (20,)), ("insert", (5, 10)), ("insert", (500, 10)),
    ("rub", (3, 1)), ("rub", (3, 1)), ("put", (0,)), ("cut", (1, 4)), ("cut", (9000, 4)), ("rub", (0, 9999)),
    ("cut", (0, 1)), ("put", (7,)),
]
ROWS_OF_STEPS = [
    (), (9,), (3, 9), (3, 9), (3, 9, 20), (3, 19, 30), (3, 19, 30), (19, 30), (19, 30), (0, 19, 30), (0, 15, 26),
    (0, 15, 26), (), (), (7,),
]


class BackAndForthTest(unittest.TestCase):
    def test_through_all_steps(self):
        tape = Tape()
        for (name, told), due in zip(STEPS, ROWS_OF_STEPS[1:]):
            self.assertEqual(getattr(tape, name)(*told), len(due))
            self.assertEqual(tape.row(), due)
        for time in range(3):
            for left in range(len(STEPS), 0, -1):
                self.assertEqual(tape.steps(), (left, len(STEPS) - left))
                self.assertEqual(tape.back(), STEPS[left - 1][0])
                self.assertEqual(tape.row(), ROWS_OF_STEPS[left - 1])
            self.assertRaises(NoBack, tape.back)
            self.assertEqual(whole_state(tape), ((), (0, len(STEPS))))
            for done in range(len(STEPS)):
                self.assertEqual(tape.steps(), (done, len(STEPS) - done))
                self.assertEqual(tape.forth(), STEPS[done][0])
                self.assertEqual(tape.row(), ROWS_OF_STEPS[done + 1])
            self.assertRaises(NoBack, tape.forth)
            self.assertEqual(whole_state(tape), ((7,), (len(STEPS), 0)))

    def test_no_back(self):
        tape = Tape()
        for time in range(2):
            self.assertRaises(NoBack, tape.back)
            self.assertRaises(NoBack, tape.forth)
            self.assertEqual(whole_state(tape), ((), (0, 0)))
        tape.put(5)
        self.assertRaises(NoBack, tape.forth)
        self.assertEqual(whole_state(tape), ((5,), (1, 0)))

    def test_forth_behind_another_step(self):
        for name, told in [("put", (5,)), ("put", (7,)), ("rub", (50, 1)), ("insert", (50, 1)), ("cut", (50, 1))]:
            tape = tape_of((5, 9))
            tape.back()
            getattr(tape, name)(*told)
            with self.subTest(name=name):
                self.assertEqual(tape.steps(), (2, 0))
                self.assertRaises(NoBack, tape.forth)
                self.assertEqual([tape.back(), tape.back()], [name, "put"])
                self.assertEqual(whole_state(tape), ((), (0, 2)))

    def test_a_step_behind_back_tells_of_the_row_as_it_is(self):
        tape = tape_of((5, 9, 12))
        tape.back()
        self.assertEqual(tape.put(20), 3)
        self.assertEqual(tape.row(), (5, 9, 20))
        tape = tape_of(FULL_ROW)
        tape.back()
        self.assertEqual(tape.put(9999), 40)


class TwinTest(unittest.TestCase):
    def tape(self):
        tape = tape_of((5, 9, 20))
        tape.cut(6, 2)
        tape.rub(5, 1)
        tape.back()
        tape.back()
        return tape

    def check_as_before(self, tape):
        self.assertEqual(whole_state(tape), ((5, 9, 20), (3, 2)))
        self.assertEqual([tape.forth(), tape.forth()], ["cut", "rub"])
        self.assertEqual(whole_state(tape), ((7, 18), (5, 0)))
        self.assertEqual([tape.back() for step in range(5)], ["rub", "cut", "put", "put", "put"])
        self.assertEqual(whole_state(tape), ((), (0, 5)))

    def test_as_this_one(self):
        tape = self.tape()
        other = tape.twin()
        self.assertIs(type(other), Tape)
        self.assertIsNot(other, tape)
        self.check_as_before(other)
        self.check_as_before(tape)

    def test_each_goes_by_itself(self):
        steps = [("put", (0,)), ("put", (5,)), ("rub", (0, 99)), ("insert", (0, 1)), ("cut", (0, 1)), ("back", ()), ("forth", ())]
        for name, told in steps:
            for place in (0, 1):
                tape = self.tape()
                both = [tape, tape.twin()]
                getattr(both[place], name)(*told)
                with self.subTest(name=name, place=place):
                    self.assertNotEqual(whole_state(both[place]), ((5, 9, 20), (3, 2)))
                    self.check_as_before(both[1 - place])

    def test_a_twin_of_a_twin(self):
        tape = self.tape()
        other = tape.twin().twin()
        tape.put(1)
        self.check_as_before(other)

    def test_of_a_new_one(self):
        tape = Tape()
        other = tape.twin()
        tape.put(1)
        self.assertEqual(whole_state(other), ((), (0, 0)))
        self.assertRaises(NoBack, other.back)
        self.assertRaises(NoBack, other.forth)


TEXTS = {
    "\n": (), "0\n": (0,), "5\n": (5,), "9999\n": (9999,), "0 1\n": (0, 1), "0 9999\n": (0, 9999), "3 6 11\n": (3, 9, 20),
    "1 3 5 7 9\n": (1, 4, 9, 16, 25), "0" + " 10" * 39 + "\n": FULL_ROW, "10 100 1000\n": (10, 110, 1110),
    "9960" + " 1" * 39 + "\n": tuple(range(9960, 10000)), "4999 5000\n": (4999, 9999),
}

NO_TEXTS = [
    # Without the line feed, with two, with it elsewhere, with others.
    "", "0", "5", "3 6 11", "\n\n", "0\n\n", "\n0", "\n0\n", "3\n6\n", "3 6\n11\n", "3 6 11\n\n", "3 6 11\r\n", "3 6 11\r",
    "3 6 11\n\r", "\r\n", "\r", "3\r6\n", "3 6 11\x0b", "3 6 11\x0c", "3 6 11\x1c", "3 6 11\x85", "3 6 11\u2028", "3 6 11\u2029",
    "3 6 11\x85\n", "3 6 11\u2028\n", "\\n", "5\\n",
    # Blanks ahead, behind or doubled, and of other kinds.
    " \n", "  \n", " 0\n", "0 \n", " 3 6 11\n", "3 6 11 \n", "3  6 11\n", "3 6  11\n", "3 6 11\n ", "\t3\n", "3\t6\n", "3\t\n",
    "3\u00a06\n", "3\u20036\n", "3\u200b6\n", "\ufeff3\n", "3,6\n", "3, 6\n", "3 6,\n", "3;6\n",
    # Noughts ahead.
    "00\n", "05\n", "0005\n", "3 06 11\n", "3 6 011\n", "03 6 11\n", "00000\n", "3 00\n", "0000\n", "00005\n",
    # Signs, and what are no figures from 0 to 9.
    "-1\n", "+1\n", "-0\n", "+0\n", "3 -1\n", "3 +6\n", "9 -3 5\n", "1.0\n", "1e1\n", "1_0\n", "0x1\n", "a\n", "3 a\n", "a 3\n",
    "x\n", "3 6 11x\n", "None\n", "True\n", "()\n", "(3, 9)\n", "|..|\n", "\u0663\n", "3 \u0663\n", "\u00b2\n", "3 \u00b2\n",
    "\uff13\n", "\u0967\n", "\u2460\n", "\u00bd\n", "\u4e09\n", "\U0001d7ce\n", "1\u0663\n",
    # A second number of 0, and others.
    "0 0\n", "3 0\n", "3 0 5\n", "0 0 0\n", "3 6 0\n",
    # More than 40 numbers, and beats above 9999.
    "0" + " 10" * 40 + "\n", "1" + " 1" * 40 + "\n", "1 " * 99 + "1\n", "10000\n", "10001\n", "99999\n", "5000 5000\n",
    "9999 1\n", "0 10000\n", "9999 9999\n", "1" * 5000 + "\n", "3 " + "9" * 5000 + "\n", "1 9999\n", "9960" + " 1" * 40 + "\n",
]

NO_THINGS = [thing for thing in NO_WHOLES if thing != ""] + [0, 1, -1, 9999, (0,), (3, 9), ["5\n"], ("5\n",), [], [[]], b"5\n", b"\n"]


class TextsTest(unittest.TestCase):
    def test_tape_text(self):
        for text, row in TEXTS.items():
            with self.subTest(text=text):
                self.assertEqual(tape_text(tape_of(row)), text)

    def test_tape_text_changes_nothing(self):
        tape = tape_of((3, 9, 20))
        tape.back()
        self.assertEqual([tape_text(tape), tape_text(tape)], ["3 6\n", "3 6\n"])
        self.assertEqual(whole_state(tape), ((3, 9), (2, 1)))
        tape.forth()
        self.assertEqual(tape_text(tape), "3 6 11\n")

    def test_tape_text_tells_of_the_row_alone(self):
        tape = tape_of((3, 9, 20))
        tape.rub(9, 1)
        tape.put(9)
        self.assertEqual(tape_text(tape), tape_text(tape_of((20, 9, 3))))

    def test_read_tape(self):
        for text, row in TEXTS.items():
            tape = read_tape(text)
            with self.subTest(text=text):
                self.assertIs(type(tape), Tape)
                self.assertIs(type(tape.row()), tuple)
                self.assertEqual(whole_state(tape), (row, (0, 0)))
                self.assertRaises(NoBack, tape.back)
                self.assertRaises(NoBack, tape.forth)

    def test_it_goes_on_as_the_other_one(self):
        tape = tape_of((3, 9, 20))
        other = read_tape(tape_text(tape))
        for name, told in STEPS:
            self.assertEqual(getattr(tape, name)(*told), getattr(other, name)(*told))
            self.assertEqual(tape.row(), other.row())
        self.assertEqual(other.steps(), (len(STEPS), 0))
        for name, told in reversed(STEPS):
            self.assertEqual([tape.back(), other.back()], [name, name])
            self.assertEqual(tape.row(), other.row())
        self.assertEqual(whole_state(other), ((3, 9, 20), (0, len(STEPS))))

    def test_a_new_tape_each_time(self):
        one, other = read_tape("3 6 11\n"), read_tape("3 6 11\n")
        one.put(0)
        self.assertEqual(whole_state(other), ((3, 9, 20), (0, 0)))
        self.assertEqual(read_tape("3 6 11\n").row(), (3, 9, 20))

    def test_no_texts_of_tapes(self):
        for text in NO_TEXTS:
            with self.subTest(text=text), self.assertRaises(NoText):
                read_tape(text)

    def test_another_sign_at_each_place(self):
        for text in ["\n", "0\n", "3 6 11\n", "10 100\n"]:
            for place in range(len(text) + 1):
                for sign in "x\n\t-+._ \u0663":
                    changed = text[:place] + sign + text[place:]
                    # One blank more makes another text only where it parts a number in two.
                    if changed not in ("3 6 1 1\n", "1 0 100\n", "10 1 00\n"):
                        with self.subTest(changed=changed), self.assertRaises(NoText):
                            read_tape(changed)

    def test_things_that_are_no_texts(self):
        for thing in NO_THINGS:
            before = copy.deepcopy(thing)
            with self.subTest(thing=thing):
                with self.assertRaises(NoText):
                    read_tape(thing)
                self.assertEqual(thing, before)


class SameAgainTest(unittest.TestCase):
    def test_asked_the_same_again(self):
        for row in ROWS:
            tape = tape_of(row)
            self.assertEqual([whole_state(tape) for time in range(3)], [(row, (len(row), 0))] * 3)
            self.assertEqual(tape_text(tape), tape_text(tape))


if __name__ == "__main__":
    unittest.main()
