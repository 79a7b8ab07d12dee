"""[6.2] row_text and read_row, and what [0.3] says of them."""

import copy
import unittest

from gatebeats.errors import NoText
from gatebeats.texts import read_row, row_text
from tests.helper import FULL_ROW, NO_ROWS, NO_WHOLES, ROWS

TEXTS = {
    "": (), "|": (0,), ".|": (1,), "||": (0, 1), "|.|": (0, 2), "..|": (2,), ".||..|": (1, 2, 5),
    "|||": (0, 1, 2), "." * 59 + "|": (59,), "|" + "." * 58 + "|": (0, 59), "." * 58 + "||": (58, 59),
    "|" * 40: tuple(range(40)), "." * 20 + "|" * 40: tuple(range(20, 60)), "|" * 39 + "." * 20 + "|": tuple(range(39)) + (59,),
}

NO_TEXTS = [
    # They end with a tick without a beat.
    ".", "..", "|.", "||.", ".|.", "." * 59, "." * 60, "." * 61, "|" + "." * 59, "|" + "." * 60, "|" * 40 + ".",
    # Other signs.
    "x", "|x", "x|", "|x|", "I", "l", "1", "0", "01", "-", "|,|", "/", "\\", "!", ":", "|:|", "\u00a6", "\uff5c", "\u2502",
    "\u3002|", "\uff0e|", "\u00b7|", "None", "()", "|\0", "\0|", "|\u200b", "\ufeff|",
    # Blanks and line feeds.
    " ", "\n", "\t", "\r", " |", "| ", "| |", "\n|", "|\n", "|\n|", "|\r\n", ".| ", " .|", ". |", "|\t", "\t|", "|\u00a0",
    "|\u2028", "|\x0b", "|\x0c", "|\x1c", "|\x85", "||\n", "\n\n",
    # More than 60 signs, or more than 40 beats.
    "." * 60 + "|", "|" * 41, "|" * 60, "|" * 61, "|" + "." * 59 + "|", "." * 19 + "|" * 41, "." * 20 + "|" * 41,
    "|" * 40 + "." * 19 + "|", "|" * 40 + "." * 20 + "|", "." * 99 + "|", "." * 9999 + "|", "|." * 40 + "|",
]

NO_THINGS = [thing for thing in NO_WHOLES if thing != ""] + [0, 1, -1, 59, 60, (0,), (1, 2), ["|"], ("|",), [], [[]], b"|", b""]


class RowTextTest(unittest.TestCase):
    def test_texts(self):
        for text, row in TEXTS.items():
            with self.subTest(text=text):
                self.assertEqual(row_text(row), text)

    def test_the_empty_row(self):
        self.assertEqual(row_text(()), "")

    def test_the_last_beat_in_tick_59_and_60(self):
        self.assertEqual(row_text((59,)), "." * 59 + "|")
        self.assertEqual(row_text((3, 59)), "...|" + "." * 55 + "|")
        for row in [(60,), (3, 60), (59, 60), (61,), (0, 9999), (9999,), FULL_ROW, tuple(range(21, 61))]:
            with self.subTest(row=row), self.assertRaises(NoText):
                row_text(row)

    def test_of_each_tick(self):
        for tick in range(60):
            self.assertEqual(row_text((tick,)), "." * tick + "|")

    def test_no_row(self):
        for thing in NO_ROWS:
            before = copy.deepcopy(thing)
            with self.subTest(thing=thing):
                with self.assertRaises(NoText):
                    row_text(thing)
                self.assertEqual(thing, before)

    def test_no_row_that_would_have_a_text(self):
        for thing in ([0, 2], (0, True), (False, 2), (2, 0), (0, 0), ("0",), tuple(range(41)), [], "", "|", "|.|"):
            with self.subTest(thing=thing), self.assertRaises(NoText):
                row_text(thing)


class ReadRowTest(unittest.TestCase):
    def test_texts(self):
        for text, row in TEXTS.items():
            told = read_row(text)
            with self.subTest(text=text):
                self.assertIs(type(told), tuple)
                self.assertEqual(told, row)

    def test_no_texts_of_rows(self):
        for text in NO_TEXTS:
            with self.subTest(text=text), self.assertRaises(NoText):
                read_row(text)

    def test_another_sign_at_each_place(self):
        for text in TEXTS:
            for place in range(len(text) + 1):
                for sign in "x \n0I":
                    with self.subTest(text=text, place=place, sign=sign):
                        with self.assertRaises(NoText):
                            read_row(text[:place] + sign + text[place:])
                        if place < len(text):
                            with self.assertRaises(NoText):
                                read_row(text[:place] + sign + text[place + 1:])

    def test_things_that_are_no_texts(self):
        for thing in NO_THINGS:
            before = copy.deepcopy(thing)
            with self.subTest(thing=thing):
                with self.assertRaises(NoText):
                    read_row(thing)
                self.assertEqual(thing, before)


class SameAgainTest(unittest.TestCase):
    def test_asked_the_same_again(self):
        for row in ROWS:
            if len(row) == 0 or row[-1] < 60:
                self.assertEqual(row_text(row), row_text(row))
        for text in TEXTS:
            self.assertEqual(read_row(text), read_row(text))


if __name__ == "__main__":
    unittest.main()
