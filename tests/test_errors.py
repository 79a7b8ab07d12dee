"""[0.3] and the interface: the refusals, and what stands under what."""

import unittest

from gatebeats.errors import BeatError, NoBack, NoGate, NoPeriod, NoRow, NoText

REFUSALS = [NoRow, NoGate, NoPeriod, NoText, NoBack]


class ErrorsTest(unittest.TestCase):
    def test_any_refusal_is_a_value_error(self):
        self.assertTrue(issubclass(BeatError, ValueError))

    def test_each_refusal_stands_under_beat_error(self):
        for refusal in REFUSALS:
            with self.subTest(refusal=refusal.__name__):
                self.assertTrue(issubclass(refusal, BeatError))
                self.assertIsNot(refusal, BeatError)

    def test_no_refusal_stands_under_another(self):
        for one in REFUSALS:
            for other in REFUSALS:
                if one is not other:
                    with self.subTest(one=one.__name__, other=other.__name__):
                        self.assertFalse(issubclass(one, other))

    def test_they_can_be_caught_as_any_refusal(self):
        for refusal in REFUSALS:
            with self.subTest(refusal=refusal.__name__), self.assertRaises(BeatError):
                raise refusal("why")


if __name__ == "__main__":
    unittest.main()
