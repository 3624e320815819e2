"""What several tests need: things of other kinds, and an independent reckoning by Python's own fractions."""

from fractions import Fraction

# None of these is a whole number.
NO_WHOLES = [None, True, False, "", "1", "1/2", "one", [], [1], [1, 2], (), (1,), (1, 2), (0, 1), [None], ((), [])]

DEEP = ([["a", (None, [True, 3])]], (("b", 7),), None)
WIDE = tuple([(k, 1) for k in range(100)])
OTHER_KINDS = NO_WHOLES + [0, 1, -1, 10 ** 60, DEEP, WIDE, list(WIDE), [None] * 299]


def pair(value):
    """The ratio, as the document writes it, of a fraction or a whole number."""
    value = Fraction(value)
    return (value.numerator, value.denominator)


def value_of(one):
    """The fraction of a ratio."""
    return Fraction(one[0], one[1])


def ball(place, speed, weight):
    return (pair(place), pair(speed), weight)


def wall(place, speed=0):
    return (pair(place), pair(speed))
