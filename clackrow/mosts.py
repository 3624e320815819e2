"""The most: how often three balls, or two and a wall that stands, can come together in all, whatever the beginning.

The three are called first, middle and last. Meetings of the first two and of the last two come by turns.
"""

from clackrow.errors import NoRow
from clackrow.ratios import floor_of, is_tuple, less, minus, over, ratio, times
from clackrow.rows import NOUGHT, is_weight


def are_weights(thing):
    """Whether thing is three weights, of which the first or the last may be None, for a wall."""
    if not is_tuple(thing, 3) or not is_weight(thing[1]):
        return False
    if thing[0] is None:
        return is_weight(thing[2])
    return is_weight(thing[0]) and (thing[2] is None or is_weight(thing[2]))


def refuse_no_weights(weights):
    """NoRow unless these are three weights, or two and a None for a wall."""
    if not are_weights(weights):
        raise NoRow("these are no three weights, of which the first or the last may be None")


def kick_of(outer, middle):
    """By how much the middle one's speed changes where an outer one, or a wall, meets it that is faster by 1."""
    if outer is None:
        return ratio(2)
    return ratio(2 * outer, outer + middle)


def numbers_of(weights):
    """The numbers, up to the first that is not above nought."""
    first, middle, last = weights
    both = times(kick_of(first, middle), kick_of(last, middle))
    numbers = [ratio(1), ratio(1)]
    while less(NOUGHT, numbers[-1]):
        # The last one has an odd place where there is an even number of them.
        grown = times(numbers[-1], both) if len(numbers) % 2 == 0 else numbers[-1]
        numbers.append(minus(grown, numbers[-2]))
    return numbers


def nearing_of(weights, numbers):
    """How fast, a whole number, first must near middle, where middle nears last by 1 and meets it first."""
    # By u and 1 at the beginning, those that meet at the coming k (the first is 0) near each other by
    # u * numbers[k - 1] + numbers[k], where numbers of odd places are taken times the kick of the first (those by u)
    # or of the last: a meeting changes the other nearing just so. All these are above nought but numbers[-1], so that
    # as many comings as numbers come where u outdoes that one.
    first, middle, last = weights
    helping, hindering = numbers[-2], numbers[-1]
    if len(numbers) % 2 == 0:
        hindering = times(hindering, kick_of(last, middle))
    else:
        helping = times(helping, kick_of(first, middle))
    return floor_of(over(minus(NOUGHT, hindering), helping)) + 1


def beginning_of(weights, nearing):
    """A row and walls where the middle one nears the last by 1, meets it at the moment 1, and the first one, that
    nears it as told, is not there by then."""
    places = [-nearing - 1, 0, 1]
    speeds = [nearing + 1, 1, 0]
    # A wall stands: where it is the first of the three, all go by its speed less.
    frame = speeds[0] if weights[0] is None else 0
    things = [(ratio(place), ratio(speed - frame)) for place, speed in zip(places, speeds)]
    row = [(place, speed, weight) for (place, speed), weight in zip(things, weights) if weight is not None]
    low = things[0] if weights[0] is None else None
    high = things[2] if weights[2] is None else None
    return (tuple(row), (low, high))


def most_of(weights):
    """The most, its numbers, and a row and walls from which just so many groups come; NoRow."""
    refuse_no_weights(weights)
    numbers = numbers_of(weights)
    row, walls = beginning_of(weights, nearing_of(weights, numbers))
    return (len(numbers), numbers, row, walls)


def lets_most(weights, most, numbers):
    """Whether this is the most and these are its numbers; NoRow."""
    refuse_no_weights(weights)
    told = numbers_of(weights)
    return most == len(told) and list(numbers) == told
