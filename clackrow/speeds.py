"""All speeds: what speeds can ever come to balls between walls that stand, or none, whatever their places."""

from clackrow.courses import common_bottom
from clackrow.errors import TooMany
from clackrow.ratios import minus, plus, ratio, times
from clackrow.rows import NOUGHT

MOST_SPEEDS = 200


def deeds_of(weights, low, high):
    """All deeds that so many balls between these walls have."""
    deeds = [("meet", i) for i in range(len(weights) - 1)]
    if low:
        deeds.append(("low",))
    if high:
        deeds.append(("high",))
    return deeds


def met(weights, speeds, i):
    """The speeds behind a meeting of balls i and i + 1."""
    left, right = weights[i:i + 2]
    nearing = minus(speeds[i], speeds[i + 1])
    slower = minus(speeds[i], times(ratio(2 * right, left + right), nearing))
    faster = plus(speeds[i + 1], times(ratio(2 * left, left + right), nearing))
    return speeds[:i] + (slower, faster) + speeds[i + 2:]


def done(weights, speeds, deed):
    """The speeds behind a deed."""
    if deed[0] == "meet":
        return met(weights, speeds, deed[1])
    if deed[0] == "low":
        return (minus(NOUGHT, speeds[0]),) + speeds[1:]
    return speeds[:-1] + (minus(NOUGHT, speeds[-1]),)


def ways_from(weights, deeds, speeds):
    """All speeds that come by deeds, as a dict of the shortest ways there; TooMany."""
    ways = {speeds: []}
    waiting = [speeds]
    while len(waiting) > 0:
        # Those that came first are asked first, so that no way is longer than it need be.
        here = waiting.pop(0)
        for deed in deeds:
            there = done(weights, here, deed)
            if there not in ways:
                ways[there] = ways[here] + [deed]
                waiting.append(there)
        if len(ways) > MOST_SPEEDS:
            raise TooMany("more speeds come than are told")
    return ways


def speeds_of(weights, low, high, speeds):
    """All speeds that come by deeds, rising, each with a way of deeds that leads there, as short as any; TooMany."""
    ways = ways_from(weights, deeds_of(weights, low, high), speeds)
    bottom = common_bottom([one for some in ways for one in some])
    rising = sorted(ways, key=lambda some: [top * (bottom // under) for top, under in some])
    return [(some, ways[some]) for some in rising]


def lets_speeds(weights, low, high, speeds, some):
    """Whether the told speeds are among some, and with each of these all to which a deed leads."""
    given = {one: True for one in some}
    deeds = deeds_of(weights, low, high)
    return speeds in given and all([done(weights, one, deed) in given for one in given for deed in deeds])
