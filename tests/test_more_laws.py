"""[0.2] (f) to (i): what holds for all parts, couples, meters and tapes."""

import unittest
from random import Random

from gatebeats.errors import NoBack, NoGate
from gatebeats.matching import alone, couples
from gatebeats.meters import Meter
from gatebeats.periods import can_be_steady
from gatebeats.rows import is_row
from gatebeats.stretches import longest_steady, steady_parts, strays
from gatebeats.tapes import Tape, read_tape, tape_text
from tests.helper import ROWS


def random_row(random, most, many):
    return tuple(sorted(random.sample(range(most), random.randrange(min(most, many) + 1))))


def pieced_row(random):
    """A row of stretches of gaps that are nearly as great, one behind the other."""
    beats, tick = [], random.randrange(50)
    while len(beats) < 40 and random.random() < 0.95:
        gap = random.randrange(1, 40)
        for step in range(random.randrange(1, 14)):
            beats.append(tick)
            tick += gap + random.choice([0, 0, 0, 1])
    return tuple(beats[:40])


def fewest_parts(row):
    """The fewest parts that can each be steady, found by going on from each beat in all ways."""
    fewest = [0] + [None] * len(row)
    for end in range(1, len(row) + 1):
        starts = [start for start in range(end) if can_be_steady(row[start:end])]
        fewest[end] = 1 + min([fewest[start] for start in starts])
    return fewest[-1]


class PartsTest(unittest.TestCase):
    """(f) parts told can each be of steady beats, and no fewer parts of a row can."""

    def rows(self):
        random = Random(8)
        yield from ROWS
        for time in range(60):
            yield pieced_row(random)
            yield random_row(random, 20, 12)
            yield random_row(random, 300, 15)

    def test_parts(self):
        several = 0
        for row in self.rows():
            told = steady_parts(row)
            several += len(told) > 2
            at = 0
            with self.subTest(row=row):
                for many in told:
                    self.assertGreater(many, 0)
                    self.assertIs(can_be_steady(row[at:at + many]), True)
                    at += many
                self.assertEqual(at, len(row))
                self.assertEqual(len(told), fewest_parts(row))
        self.assertGreater(several, 50)

    def test_parts_beside_stretches_and_strays(self):
        for row in self.rows():
            told, steady = steady_parts(row), can_be_steady(row)
            with self.subTest(row=row):
                self.assertEqual(len(told) <= 1, steady)
                if len(row) > 0:
                    self.assertEqual(longest_steady(row) == (0, len(row)), steady)
                    self.assertGreaterEqual(longest_steady(row)[1], max(told))
                if steady:
                    self.assertEqual(strays(row), [])


def most_couples(one, other, near):
    """The most couples that can be: each beat takes one that is free, or that its holder can leave for another."""
    holders = {}

    def take(beat, tried):
        for each in other:
            if abs(each - beat) <= near and each not in tried:
                tried.add(each)
                if each not in holders or take(holders[each], tried):
                    holders[each] = beat
                    return True
        return False

    return len([beat for beat in one if take(beat, set())])


class CouplesTest(unittest.TestCase):
    """(g) no beat is in two couples, and there are no more couples than told."""

    def test_couples(self):
        random = Random(9)
        pairs = [(one, other) for one in ROWS for other in ROWS]
        pairs += [(random_row(random, most, 40), random_row(random, most, 40)) for most in (10, 60, 200) for time in range(80)]
        for one, other in pairs:
            for near in (0, 1, 2, 5, 30):
                told = couples(one, other, near)
                firsts, seconds = [pair[0] for pair in told], [pair[1] for pair in told]
                with self.subTest(one=one, other=other, near=near):
                    self.assertEqual(firsts, sorted(set(firsts) & set(one)))
                    self.assertEqual(seconds, sorted(set(seconds) & set(other)))
                    self.assertLessEqual(max([abs(first - second) for first, second in told], default=0), near)
                    self.assertEqual(len(told), most_couples(one, other, near))
                    self.assertEqual(set(alone(one, other, near)) & set(firsts), set())


def word_of(counts, length, low, high):
    """The word behind all these ticks, each told as how many beats it has."""
    held = sum(counts[-length:])
    if counts and held < low:
        return "few"
    if counts and held > high:
        return "many"
    return ""


def changes_of(counts, length, low, high):
    words = [word_of(counts[:ticks], length, low, high) for ticks in range(len(counts) + 1)]
    return [(tick, words[tick + 1]) for tick in range(len(counts)) if words[tick + 1] != words[tick]]


def random_counts(random):
    """Ticks, each told as how many beats it has, with long and short rests."""
    counts = []
    for time in range(random.randrange(12)):
        counts += random.choice([[random.randrange(1, 10)], [0] * random.randrange(1, 5), [0] * random.randrange(1, 150)])
    return counts


def random_meter(random):
    low = random.choice([0, 1, random.randrange(12)])
    return random.choice([1, 2, 5, random.randrange(1, 60)]), low, low + random.choice([0, 1, random.randrange(12)])


def as_steps(random, counts, longest):
    """Steps (name, number) in which these ticks go by, rests being parted at random."""
    steps, rest = [], 0
    for count in counts + [None]:
        if rest > 0 and (count != 0 or rest == longest or random.random() < 0.1):
            steps.append(("rest", rest))
            rest = 0
        if count == 0:
            rest += 1
        elif count is not None:
            steps.append(("beats", count))
    return steps


class MeterPartsTest(unittest.TestCase):
    """(h) a meter tells in whatever parts ticks go by the same changes."""

    def test_in_whatever_parts(self):
        random = Random(10)
        several = 0
        for time in range(300):
            counts, told = random_counts(random), random_meter(random)
            due = changes_of(counts, *told)
            several += len(due) > 2
            for longest in (1, 2, 7, 99, 99):
                steps = as_steps(random, counts, longest)
                self.assertEqual(sum([number if name == "rest" else 1 for name, number in steps]), len(counts))
                meter, changes = Meter(*told), []
                for name, number in steps:
                    ahead, before = meter.clock(), meter.word()
                    tells = getattr(meter, name)(number)
                    self.assertEqual([tick for tick, word in tells if not ahead <= tick < meter.clock()], [])
                    self.assertEqual(meter.word(), tells[-1][1] if tells else before)
                    changes += tells
                with self.subTest(told=told, steps=steps):
                    self.assertEqual(changes, due)
                    self.assertEqual(meter.clock(), len(counts))
                    self.assertEqual(meter.held(), sum(counts[-told[0]:]))
                    self.assertEqual(meter.word(), word_of(counts, *told))
        self.assertGreater(several, 50)


class Walk:
    """What a meter or a tape has to tell of its steps, kept as all the states that it went through."""

    def __init__(self, test, thing, state):
        self.test, self.thing, self.state = test, thing, state
        self.states, self.names, self.at = [state(thing)], [], 0

    def check(self):
        self.test.assertEqual(self.state(self.thing), self.states[self.at])
        self.test.assertEqual(self.thing.steps(), (self.at, len(self.names) - self.at))

    def step(self, name, told):
        """A step, and what it tells; None, where it is refused."""
        try:
            tells = getattr(self.thing, name)(*told)
        except NoGate:
            self.check()
            return None
        self.at += 1
        self.states = self.states[:self.at] + [self.state(self.thing)]
        self.names = self.names[:self.at - 1] + [name]
        self.check()
        return tells

    def back(self):
        if self.at == 0:
            self.test.assertRaises(NoBack, self.thing.back)
        else:
            self.at -= 1
            self.test.assertEqual(self.thing.back(), self.names[self.at])
        self.check()

    def forth(self):
        if self.at == len(self.names):
            self.test.assertRaises(NoBack, self.thing.forth)
        else:
            self.at += 1
            self.test.assertEqual(self.thing.forth(), self.names[self.at - 1])
        self.check()

    def twin(self):
        other = Walk(self.test, self.thing.twin(), self.state)
        other.states, other.names, other.at = list(self.states), list(self.names), self.at
        other.check()
        return other

    def turn(self, random):
        """Some steps back or forth, at times down to the first one or up to the last one."""
        going = random.choice([self.back, self.forth])
        for time in range(random.choice([1, 1, 2, 5, len(self.names) + 1])):
            going()


def state_of_meter(meter):
    return meter.clock(), meter.held(), meter.word()


def row_behind(row, name, told):
    """The row behind a step of a tape, found on a tape of ticks; None, where the step is to be refused."""
    ticks = [tick in row for tick in range(10000)]
    start, length = told if len(told) == 2 else (told[0], 1)
    if start > 9999 or length < 1:
        return None
    if name == "put":
        ticks[start] = True
    elif name == "rub":
        ticks[start:start + length] = [False] * len(ticks[start:start + length])
    elif name == "insert":
        ticks[start:start] = [False] * length
    else:
        del ticks[start:start + length]
    beats = tuple([tick for tick, beat in enumerate(ticks) if beat])
    return None if len(beats) > 40 or max(beats, default=0) > 9999 else beats


class BackAndForthTest(unittest.TestCase):
    """(i) meters and tapes go back and forth step by step; a tape's text makes it again."""

    def walk_on(self, random, walk, random_step):
        """Goes on with a walk and its twins by turns; each has to stay as its own steps left it."""
        walks = [walk]
        for time in range(80):
            each = random.choice(walks)
            action = random.random()
            if action < 0.55:
                random_step(each)
            elif action < 0.95 or len(walks) == 3:
                each.turn(random)
            else:
                walks.append(each.twin())
            for other in walks:
                other.check()
        return walks

    def test_meters(self):
        random = Random(11)

        def random_step(walk):
            name, most = random.choice([("beats", 9), ("rest", 99), ("rest", 4)])
            walk.step(name, (random.randrange(most + 2),))

        for time in range(40):
            told = random_meter(random)
            with self.subTest(told=told):
                self.walk_on(random, Walk(self, Meter(*told), state_of_meter), random_step)

    def test_a_meter_behind_back_is_as_one_that_never_did_the_step(self):
        random = Random(12)
        for time in range(60):
            told, counts = random_meter(random), random_counts(random)
            steps = as_steps(random, counts, 99)
            meter = Meter(*told)
            for name, number in steps:
                # A step that is taken back ahead of it leaves nothing behind.
                random.choice([meter.beats, meter.rest])(random.randrange(1, 10))
                meter.back()
                other = Meter(*told)
                for each, many in steps[:meter.steps()[0]]:
                    getattr(other, each)(many)
                self.assertEqual(getattr(meter, name)(number), getattr(other, name)(number))
                self.assertEqual(state_of_meter(meter), state_of_meter(other))

    def test_tapes(self):
        random = Random(13)
        full = 0

        def random_step(walk):
            nonlocal full
            name = random.choice(["put", "put", "put", "put", "rub", "insert", "cut"])
            tick = random.choice([random.randrange(60), random.randrange(10001)])
            told = (tick,) if name == "put" else (tick, random.choice([0, 1, 2, random.randrange(30), 9999]))
            due = row_behind(walk.thing.row(), name, told)
            tells = walk.step(name, told)
            if due is None:
                full += len(walk.thing.row()) == 40
                self.assertIsNone(tells)
            else:
                self.assertEqual((tells, walk.thing.row()), (len(due), due))

        for time in range(60):
            tape = Tape()
            for tick in random.sample(range(100), random.choice([0, 5, 38])):
                tape.put(tick)
            walk = Walk(self, read_tape(tape_text(tape)), Tape.row)
            for each in self.walk_on(random, walk, random_step):
                for row in each.states:
                    self.assertIs(is_row(row), True)
                self.check_made_again(each.thing)
        self.assertGreater(full, 5)

    def check_made_again(self, tape):
        text = tape_text(tape)
        other = read_tape(text)
        self.assertEqual(other.row(), tape.row())
        self.assertEqual(other.steps(), (0, 0))
        self.assertEqual(tape_text(other), text)

    def test_a_tapes_text_makes_it_again(self):
        random = Random(14)
        rows = ROWS + [random_row(random, most, 40) for most in (50, 400, 10000) for time in range(100)]
        texts = {}
        for row in rows:
            tape = Tape()
            for tick in random.sample(row, len(row)):
                tape.put(tick)
            with self.subTest(row=row):
                self.assertEqual(tape.row(), row)
                self.check_made_again(tape)
                self.assertEqual(texts.setdefault(tape_text(tape), row), row)


if __name__ == "__main__":
    unittest.main()
