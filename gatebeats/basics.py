"""Whole numbers and fractions, as the other modules take and tell them."""


def is_whole(thing):
    # Python counts True and False among the ints; the document does not.
    return isinstance(thing, int) and not isinstance(thing, bool)


def is_within(thing, least, most):
    """Whether any thing is a whole number from least to most."""
    return is_whole(thing) and least <= thing <= most


def common_divisor(one, other):
    while other != 0:
        one, other = other, one % other
    return one


def fraction(up, down):
    """up divided by down in lowest terms; up is 0 or more, down above 0."""
    shared = common_divisor(up, down)
    return (up // shared, down // shared)


def is_less(one, other):
    """Whether one fraction is less than another."""
    return one[0] * other[1] < other[0] * one[1]
