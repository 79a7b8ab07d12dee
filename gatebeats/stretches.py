"""Stretches of a row that can be of steady beats, and beats that spoil it."""

from gatebeats.periods import can_be_steady
from gatebeats.rows import check_row


def longest_steady(row):
    """A tuple (first, many) of the first of the longest stretches that can be steady; None without beats."""
    check_row(row)
    if len(row) == 0:
        return None
    best, many = 0, 1
    for first in range(len(row)):
        # A stretch of one that can be steady can be so too: only one that is longer than the best is to be tried.
        while first + many < len(row) and can_be_steady(row[first:first + many + 1]):
            best, many = first, many + 1
    return (best, many)


def first_part(row):
    """How many of the first beats, as many as can be, can be steady; the row has beats."""
    many = 1
    while many < len(row) and can_be_steady(row[:many + 1]):
        many += 1
    return many


def steady_parts(row):
    """A list of how many beats each part has, the row being parted in as few as can be that can each be steady."""
    check_row(row)
    parts = []
    rest = row
    # What is left behind a greater part is less, and so never needs more parts.
    while len(rest) > 0:
        many = first_part(rest)
        parts.append(many)
        rest = rest[many:]
    return parts


def strays(row):
    """A rising list of the numbers of beats without which, each alone, a row that can't be steady could be."""
    if can_be_steady(row):
        return []
    return [place for place in range(len(row)) if can_be_steady(row[:place] + row[place + 1:])]
