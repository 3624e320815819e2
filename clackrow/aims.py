"""Beginnings: where one ball more may begin, so that a ball of all is at a place at a moment."""

from clackrow.courses import common_bottom
from clackrow.lines import at_once, refuse_no_ball, refuse_no_box, refuse_no_place
from clackrow.ratios import less, minus, ratio, rest_of, times


def wished(row, walls, k, place, t):
    """From where to where the line of one ball more may be at t, so that ball k of all is at the place; None where
    it may be nowhere."""
    places = [ball[0] for ball in at_once(row, walls, t)]
    below = len([one for one in places if less(one, place)])
    upto = below + places.count(place)
    if not below <= k <= upto:
        return None
    # A ball that is there already is ball k as well with the one more on this side of it, if its number allows.
    first = walls[0][0] if k > below else place
    last = walls[1][0] if k < upto else place
    return (first, last)


def joined(stretches):
    """The stretches, that rise, those that meet being put together."""
    told = []
    for first, last in stretches:
        if len(told) > 0 and first <= told[-1][1]:
            told[-1] = (told[-1][0], last)
        else:
            told.append((first, last))
    return told


def beginnings(low, high, gone_on, first, last):
    """From where to where a line may begin that has gone on by gone_on, less than a trip, and is from first to last:
    a list of stretches, of whole numbers."""
    trip = 2 * (high - low)
    # As though high were a mirror, and low as well: so far a line may go straight on that is then there.
    unfolded = [(first, last), (2 * high - last, 2 * high - first), (trip + first, trip + last)]
    ways = [(max(low, one - gone_on), min(high, other - gone_on)) for one, other in unfolded]
    return joined([(one, other) for one, other in ways if one <= other])


def aims(row, walls, speed, k, place, t):
    """All places where one ball more, of this speed, may begin, so that ball k of all is at the place at t, as a list
    of stretches; NotEven, NoBall, NoPlace."""
    refuse_no_box(row, walls)
    refuse_no_ball(len(row) + 1, k)
    refuse_no_place(walls, place)
    wish = wished(row, walls, k, place, t)
    if wish is None:
        return []
    low, high = walls[0][0], walls[1][0]
    gone_on = rest_of(times(speed, t), times(ratio(2), minus(high, low)))
    numbers = [low, high, gone_on, wish[0], wish[1]]
    bottom = common_bottom(numbers)
    tops = [one[0] * (bottom // one[1]) for one in numbers]
    stretches = beginnings(tops[0], tops[1], tops[2], tops[3], tops[4])
    return [(ratio(first, bottom), ratio(last, bottom)) for first, last in stretches]
