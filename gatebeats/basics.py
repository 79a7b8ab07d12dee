"""Whole numbers and fractions, as the other modules take and tell them."""


def is_whole(thing):
    # Python counts True and False among the ints; the document does not.
    return isinstance(thing, int) and not isinstance(thing, bool)


def is_within(thing, least, most):
    """Whether any thing is a whole number from least to most."""
    return is_whole(thing) and least <= thing <= most


def common_divisor(one, other):
    while other != 0:
        one, other = other, one % other
    return one


def fraction(up, down):
    """up divided by down in lowest terms; up is 0 or more, down above 0."""
    shared = common_divisor(up, down)
    return (up // shared, down // shared)


def is_fraction(thing, most_down):
    """Whether any thing is a fraction from 0 on, whose down is no more than most_down."""
    if not isinstance(thing, tuple) or len(thing) != 2:
        return False
    up, down = thing
    if not is_whole(up) or not is_within(down, 1, most_down):
        return False
    return up >= 0 and common_divisor(up, down) == 1


def is_less(one, other):
    """Whether one fraction is less than another."""
    return one[0] * other[1] < other[0] * one[1]


def lesser(one, other):
    """The lesser of two fractions."""
    return other if is_less(other, one) else one


def greater(one, other):
    """The greater of two fractions."""
    return other if is_less(one, other) else one
