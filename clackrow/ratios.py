"""Ratios: tuples (top, bottom) of whole numbers in lowest terms, the bottom from 1 on."""

from clackrow.errors import NoRatio


def is_whole(thing):
    """Whether thing is a whole number."""
    # True and False are ints to Python, but no whole numbers here.
    return isinstance(thing, int) and not isinstance(thing, bool)


def is_tuple(thing, many):
    """Whether thing is a tuple of just so many things."""
    return isinstance(thing, tuple) and len(thing) == many


def greatest_divisor(one, other):
    """The greatest whole number that divides both; neither is below 0, not both are 0."""
    while other > 0:
        one, other = other, one % other
    return one


def is_ratio(thing):
    """Whether thing is a ratio."""
    if not is_tuple(thing, 2):
        return False
    top, bottom = thing
    if not is_whole(top) or not is_whole(bottom) or bottom < 1:
        return False
    return greatest_divisor(abs(top), bottom) == 1


def ratio(top, bottom=1):
    """The ratio of top by bottom; NoRatio unless both are whole numbers and bottom is not 0."""
    if not is_whole(top) or not is_whole(bottom) or bottom == 0:
        raise NoRatio("a ratio is made of two whole numbers, the second one not 0")
    divisor = greatest_divisor(abs(top), abs(bottom))
    if bottom < 0:
        divisor = -divisor
    return (top // divisor, bottom // divisor)


def plus(one, other):
    """The sum."""
    return ratio(one[0] * other[1] + other[0] * one[1], one[1] * other[1])


def minus(one, other):
    """One less the other."""
    return ratio(one[0] * other[1] - other[0] * one[1], one[1] * other[1])


def times(one, other):
    """The product."""
    return ratio(one[0] * other[0], one[1] * other[1])


def over(one, other):
    """One by the other; NoRatio by nought."""
    return ratio(one[0] * other[1], one[1] * other[0])


def less(one, other):
    """Whether one is below the other."""
    return one[0] * other[1] < other[0] * one[1]


def floor_of(one):
    """The greatest whole number that is not above one."""
    return one[0] // one[1]


def rest_of(one, other):
    """One less the greatest whole multiple of other, which is above nought, that is not above one."""
    # Over the product of the bottoms both are whole numbers, and so is the rest.
    return ratio(one[0] * other[1] % (other[0] * one[1]), one[1] * other[1])


def sum_of(parts):
    """The sum of a list of ratios."""
    total = ratio(0)
    for part in parts:
        total = plus(total, part)
    return total
