"""Rows written as texts, and read again."""

from gatebeats.errors import NoText
from gatebeats.rows import is_row

TEXT_END = 60


def row_text(row):
    """The text of a row whose last beat is ahead of tick 60: a sign for each tick up to that beat."""
    if not is_row(row):
        raise NoText("only a row has a text")
    if len(row) == 0:
        return ""
    if row[-1] >= TEXT_END:
        raise NoText("a row with a text has its last beat ahead of tick 60")
    return "".join(["|" if tick in row else "." for tick in range(row[-1] + 1)])


def read_row(text):
    """The row of which any thing is the text."""
    if not isinstance(text, str):
        raise NoText("a row is read from a text")
    row = tuple([tick for tick, sign in enumerate(text) if sign == "|"])
    # Whatever else a text has, it is none that would be written of its own beats.
    if row_text(row) != text:
        raise NoText("no row has this text")
    return row
