"""Tapes, on which beats are put, and which go back, and their texts."""

from gatebeats.basics import is_within
from gatebeats.errors import NoGate, NoText
from gatebeats.history import History
from gatebeats.rows import LAST_TICK, MOST_BEATS, beats_from, check_gate, is_row
from gatebeats.working import merged

FIGURES = "0123456789"
MOST_FIGURES = 4


def beats_around(row, start, length):
    """A list of the beats ahead of a gate, and one of those behind it."""
    return beats_from(row, 0, start), beats_from(row, start + length, LAST_TICK + 1)


class Tape:
    """A row that is changed step by step."""

    def __init__(self):
        self.ticks = ()
        self.history = History()

    def change(self, name, row):
        """A step makes this the tape's row: how many beats it has."""
        self.history.keep((name, self.ticks, row))
        self.ticks = row
        return len(row)

    def put(self, tick):
        """A beat is in this tick: how many beats there are then."""
        if not is_within(tick, 0, LAST_TICK):
            raise NoGate("a beat is put in a tick from 0 to 9999")
        if len(self.ticks) == MOST_BEATS and tick not in self.ticks:
            raise NoGate("there are no more than 40 beats")
        return self.change("put", merged(self.ticks, (tick,)))

    def rub(self, start, length):
        """No beats are in this gate: how many beats there are then."""
        check_gate(start, length)
        ahead, behind = beats_around(self.ticks, start, length)
        return self.change("rub", tuple(ahead + behind))

    def insert(self, start, length):
        """The beats in tick start and behind it come length ticks later: how many beats there are then."""
        check_gate(start, length)
        row = tuple([beat if beat < start else beat + length for beat in self.ticks])
        if not is_row(row):
            raise NoGate("no beat is above 9999")
        return self.change("insert", row)

    def cut(self, start, length):
        """The ticks of this gate are there no more, nor its beats: how many beats there are then."""
        check_gate(start, length)
        ahead, behind = beats_around(self.ticks, start, length)
        return self.change("cut", tuple(ahead + [beat - length for beat in behind]))

    def row(self):
        """The row."""
        return self.ticks

    def back(self):
        """The last step is taken back: which it was, put, rub, insert or cut."""
        name, sooner, later = self.history.take_back()
        self.ticks = sooner
        return name

    def forth(self):
        """The step that was taken back last is done again: which it was, put, rub, insert or cut."""
        name, sooner, later = self.history.do_again()
        self.ticks = later
        return name

    def steps(self):
        """A tuple of how many steps can be taken back, and how many done again."""
        return self.history.sizes()

    def twin(self):
        """A tape that is as this one, and from then on goes by itself."""
        other = Tape()
        other.ticks = self.ticks
        other.history = self.history.copied()
        return other


def line_of(row):
    """The text of a row: how many ticks each beat is behind the one ahead."""
    behind = [later - sooner for sooner, later in zip((0,) + row, row)]
    return " ".join([str(ticks) for ticks in behind]) + "\n"


def tape_text(tape):
    """The text of a tape."""
    return line_of(tape.row())


def is_number(word):
    """Whether a word is of figures alone, and of no more of them than a tick has."""
    return len(word) <= MOST_FIGURES and all([sign in FIGURES for sign in word])


def beats_at(numbers):
    """A tuple of the ticks of beats, each so many behind the one ahead, the first one behind tick 0."""
    beats = []
    tick = 0
    for number in numbers:
        tick += number
        beats.append(tick)
    return tuple(beats)


def read_tape(text):
    """A new tape with the row of a tape's text, without steps."""
    if not isinstance(text, str):
        raise NoText("a tape is read from a text")
    words = text.split()
    if not all([is_number(word) for word in words]):
        raise NoText("a tape's text has numbers alone")
    row = beats_at([int(word) for word in words])
    # Whatever else a text has, blanks and noughts too, it is none that would be written of its own row.
    if not is_row(row) or line_of(row) != text:
        raise NoText("no tape has this text")
    tape = Tape()
    tape.ticks = row
    return tape
