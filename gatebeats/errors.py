"""The refusals of the package."""


class BeatError(ValueError):
    """Any refusal."""


class NoRow(BeatError):
    """What should be a row is none."""


class NoGate(BeatError):
    """What should be a gate, or a number beside one, is none."""


class NoPeriod(BeatError):
    """What should be steady beats is none."""


class NoText(BeatError):
    """What should be a text, or should have one, is not so."""


class NoBack(BeatError):
    """There is no step to take back, or to do again."""
