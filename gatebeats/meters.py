"""Meters, which tell when the last ticks had few beats, or many."""

from gatebeats.basics import is_within
from gatebeats.errors import NoGate
from gatebeats.history import History
from gatebeats.rows import check_length

MOST_HELD = 9999
MOST_AT_ONCE = 9
LONGEST_REST = 99


def check_meter(length, low, high):
    check_length(length)
    if not is_within(low, 0, MOST_HELD) or not is_within(high, 0, MOST_HELD):
        raise NoGate("low and high are whole numbers from 0 to 9999")
    if low > high:
        raise NoGate("low is not above high")


class Meter:
    """How many beats the last ticks had, and the word for it."""

    def __init__(self, length, low, high):
        check_meter(length, low, high)
        self.length = length
        self.low = low
        self.high = high
        # How many beats had come when no tick was over, one, two, and so on.
        self.totals = [0]
        self.history = History()

    def held_behind(self, ticks):
        """How many beats the last ticks had when so many were over."""
        return self.totals[ticks] - self.totals[max(ticks - self.length, 0)]

    def word_behind(self, ticks):
        """The word when so many ticks were over."""
        # There is no tick yet behind which there could be another word.
        if ticks == 0:
            return ""
        if self.held_behind(ticks) < self.low:
            return "few"
        if self.held_behind(ticks) > self.high:
            return "many"
        return ""

    def go_by(self, counts):
        """Ticks with so many beats each go by: a list of (tick, word) of those that change the word."""
        first = self.clock()
        for count in counts:
            self.totals.append(self.totals[-1] + count)
        words = [self.word_behind(ticks) for ticks in range(first, self.clock() + 1)]
        pairs = list(zip(words, words[1:]))
        return [(first + place, later) for place, (sooner, later) in enumerate(pairs) if later != sooner]

    def beats(self, many):
        """A tick with so many beats: a list of (tick, word) of changes."""
        if not is_within(many, 1, MOST_AT_ONCE):
            raise NoGate("beats in a tick are a whole number from 1 to 9")
        self.history.keep(("beats", (many,)))
        return self.go_by((many,))

    def rest(self, ticks):
        """So many ticks without beats: a list of (tick, word) of changes."""
        if not is_within(ticks, 1, LONGEST_REST):
            raise NoGate("a rest has as many ticks as a whole number from 1 to 99")
        self.history.keep(("rest", (0,) * ticks))
        return self.go_by((0,) * ticks)

    def clock(self):
        """How many ticks are over."""
        return len(self.totals) - 1

    def held(self):
        """How many beats the last ticks had."""
        return self.held_behind(self.clock())

    def word(self):
        """The word: few, many, or the empty text."""
        return self.word_behind(self.clock())

    def back(self):
        """The last step is taken back: which it was, beats or rest."""
        name, counts = self.history.take_back()
        del self.totals[-len(counts):]
        return name

    def forth(self):
        """The step that was taken back last is done again: which it was, beats or rest."""
        name, counts = self.history.do_again()
        self.go_by(counts)
        return name

    def steps(self):
        """A tuple of how many steps can be taken back, and how many done again."""
        return self.history.sizes()

    def twin(self):
        """A meter that is as this one, and from then on goes by itself."""
        other = Meter(self.length, self.low, self.high)
        other.totals = list(self.totals)
        other.history = self.history.copied()
        return other
