"""Weights by what was seen: sightings (i, j, v, w, v2, w2) of meetings, speeds ahead and behind."""

from clackrow.courses import common_bottom
from clackrow.ratios import less, minus, over, ratio, times
from clackrow.rows import NOUGHT


def share_of(sighting):
    """How many times as heavy as i, by a sighting, j is; None where no weights do it."""
    i, j, v, w, v2, w2 = sighting
    if v == w or minus(w2, v2) != minus(v, w) or w == w2:
        return None
    share = over(minus(v, v2), minus(w2, w))
    return share if less(NOUGHT, share) else None


def does_all(weights, sightings):
    """Whether the weights do all sightings."""
    if not all([weight >= 1 for weight in weights]):
        return False
    return all([share_of(sighting) == ratio(weights[sighting[1]], weights[sighting[0]]) for sighting in sightings])


def part_of(root, sightings, shares):
    """All balls that sightings join to one: a dict of pairs, how many times as heavy as that one each is, and a way
    there, a list of pairs as in a ring."""
    reached = {root: (ratio(1), [])}
    waiting = [root]
    while len(waiting) > 0:
        ball = waiting.pop()
        heavy, path = reached[ball]
        for number, sighting in enumerate(sightings):
            i, j = sighting[:2]
            if i == ball and j not in reached:
                reached[j] = (times(heavy, shares[number]), path + [(number, 0)])
                waiting.append(j)
            elif j == ball and i not in reached:
                reached[i] = (over(heavy, shares[number]), path + [(number, 1)])
                waiting.append(i)
    return reached


def ring_of(part, sighting, number):
    """The ring that a sighting closes with the ways to its two balls."""
    there, back = part[sighting[0]][1], part[sighting[1]][1]
    # What both ways have in common leads to the ring, and is none of it.
    while len(there) > 0 and len(back) > 0 and there[0] == back[0]:
        there, back = there[1:], back[1:]
    return there + [(number, 0)] + [(one, 1 - way) for one, way in back[::-1]]


def ring_in(part, sightings, shares):
    """A ring of balls of this part; None where there is none."""
    for number, sighting in enumerate(sightings):
        i, j = sighting[:2]
        if i in part and times(part[i][0], shares[number]) != part[j][0]:
            return ring_of(part, sighting, number)
    return None


def least_weights(part):
    """The least weights, whole numbers, of the balls of a part, as a dict."""
    # No number above 1 divides all of these: where a prime is in the bottom, some ratio has it there most often, and
    # that one's top keeps clear of it; else the first ball's weight, the bottom itself, does.
    bottom = common_bottom([heavy for heavy, path in part.values()])
    return {ball: heavy[0] * (bottom // heavy[1]) for ball, (heavy, path) in part.items()}


def weights_of(n, sightings):
    """The first sighting that no weights do, or weights of so many balls that do all, or a ring that shows that none
    do."""
    shares = [share_of(sighting) for sighting in sightings]
    if None in shares:
        return ("odd", shares.index(None))
    weights = {}
    for root in range(n):
        if root not in weights:
            part = part_of(root, sightings, shares)
            ring = ring_in(part, sightings, shares)
            if ring is not None:
                return ("ring", ring)
            weights.update(least_weights(part))
    return ("weights", tuple([weights[ball] for ball in range(n)]))


def is_step(sightings, number, way):
    """Whether there is such a sighting, that some weights do, and such a way."""
    return 0 <= number < len(sightings) and 0 <= way <= 1 and share_of(sightings[number]) is not None


def lets_ring(n, sightings, ring):
    """Whether the ring shows that no weights of so many balls do all sightings."""
    if not all([is_step(sightings, number, way) for number, way in ring]):
        return False
    steps = [(sightings[number][way], sightings[number][1 - way]) for number, way in ring]
    # The step ahead of the first is the last one, of number -1.
    if not all([steps[at][0] == steps[at - 1][1] for at in range(len(steps))]):
        return False
    # Of an empty ring the product is 1, so that it is none.
    top = bottom = 1
    for number, way in ring:
        share = share_of(sightings[number])
        top *= share[way]
        bottom *= share[1 - way]
    return top != bottom
