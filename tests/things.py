"""What several tests need: things of other kinds, rows by chance, and an independent reckoning by Python's own
fractions, that steps from coming to coming as the document tells it."""

from fractions import Fraction

from clackrow.rows import is_row

# None of these is a whole number.
NO_WHOLES = [None, True, False, "", "1", "1/2", "one", [], [1], [1, 2], (), (1,), (1, 2), (0, 1), [None], ((), [])]

DEEP = ([["a", (None, [True, 3])]], (("b", 7),), None)
WIDE = tuple([(k, 1) for k in range(100)])
OTHER_KINDS = NO_WHOLES + [0, 1, -1, 10 ** 60, DEEP, WIDE, list(WIDE), [None] * 299]

OPEN = (None, None)
NOUGHT = (0, 1)


def pair(value):
    """The ratio, as the document writes it, of a fraction or a whole number."""
    value = Fraction(value)
    return (value.numerator, value.denominator)


def value_of(one):
    """The fraction of a ratio."""
    return Fraction(one[0], one[1])


def ball(place, speed, weight=1):
    return (pair(place), pair(speed), weight)


def wall(place, speed=0):
    return (pair(place), pair(speed))


def row_of(*balls):
    """A row of triples or pairs (place, speed, weight)."""
    return tuple([ball(*one) for one in balls])


def low_at(place, speed=0):
    """One wall, on the left."""
    return (wall(place, speed), None)


def high_at(place, speed=0):
    """One wall, on the right."""
    return (None, wall(place, speed))


def box(low, high):
    """Two walls that stand."""
    return (wall(low), wall(high))


def chance_row(source, many, weights, walls=None, span=4, bottoms=(1, 1, 2, 3)):
    """A row of so many balls by chance, close by, so that several often come together; between the walls told, or
    walls by chance: none, one or two, standing or going."""
    def number(most):
        return Fraction(source.randint(-most, most), source.choice(bottoms))

    while True:
        spots = sorted([(number(span), number(3)) for k in range(many)])
        row = tuple([ball(place, speed, source.choice(weights)) for place, speed in spots])
        chosen = walls
        if walls is None:
            low = source.choice([None, wall(-span), wall(-span, number(2)), wall(spots[0][0], number(2)),
                                 wall(*spots[0])])
            high = source.choice([None, wall(span), wall(span, number(2)), wall(spots[-1][0], number(2)),
                                  wall(*spots[-1])])
            chosen = (low, high)
        if is_row(chosen, row):
            return row, chosen


class Stepper:
    """A row and walls that step from coming to coming; each step is as 3.1 and 3.2 tell it, place by place."""

    def __init__(self, row, walls):
        self.balls = [[value_of(place), value_of(speed), weight] for place, speed, weight in row]
        self.walls = [None if one is None else [value_of(one[0]), value_of(one[1])] for one in walls]
        self.now = Fraction(0)

    def wait(self):
        """How long it is till the next coming; None where nothing ever comes."""
        waits = []
        for left, right in zip(self.balls, self.balls[1:]):
            if left[1] > right[1]:
                waits.append((right[0] - left[0]) / (left[1] - right[1]))
        low, high = self.walls
        if low is not None and self.balls[0][1] < low[1]:
            waits.append((self.balls[0][0] - low[0]) / (low[1] - self.balls[0][1]))
        if high is not None and self.balls[-1][1] > high[1]:
            waits.append((high[0] - self.balls[-1][0]) / (self.balls[-1][1] - high[1]))
        return min(waits) if waits else None

    def shut(self):
        """How long it is till the walls meet; None where they never do."""
        low, high = self.walls
        if low is None or high is None or low[1] <= high[1]:
            return None
        return (high[0] - low[0]) / (low[1] - high[1])

    def go(self, wait):
        self.now += wait
        for one in self.balls + [one for one in self.walls if one is not None]:
            one[0] += wait * one[1]

    def groups(self):
        """The groups here and now, each with how many came to a wall, nothing having rebounded yet."""
        found = []
        places = sorted(set([one[0] for one in self.balls]))
        for place in places:
            numbers = [k for k, one in enumerate(self.balls) if one[0] == place]
            where, came = "", 0
            for name, one in zip(["low", "high"], self.walls):
                if one is not None and one[0] == place:
                    where, came = name, len([k for k in numbers if self.balls[k][1] != one[1]])
            if len(numbers) > 1 or came:
                found.append((numbers[0], numbers[-1], where, came))
        return found

    def rebound(self, group):
        """Whether the group is not refused; then its balls have their speeds behind it."""
        first, last, where, came = group
        balls = self.balls[first:last + 1]
        speeds = [one[1] for one in balls]
        if where == "" and len(balls) == 2:
            (m, n), (v, w) = [one[2] for one in balls], speeds
            speeds = [v - 2 * n * (v - w) / (m + n), w + 2 * m * (v - w) / (m + n)]
        elif len(set([one[2] for one in balls])) == 1:
            if where:
                speeds = [2 * self.walls[where == "high"][1] - v for v in speeds]
            speeds = sorted(speeds)
        else:
            return False
        for one, speed in zip(balls, speeds):
            one[1] = speed
        return True

    def state(self):
        """Row and walls as they are now."""
        row = tuple([ball(*one) for one in self.balls])
        return row, tuple([None if one is None else wall(*one) for one in self.walls])


def stepped(row, walls, t, most=400):
    """What a run to t tells: ("shut", moment), ("together", moment), ("many", comings), or ("gone", comings, how many
    came to the wall at each, row, walls); t is a fraction, or None for the end."""
    one = Stepper(row, walls)
    shut = one.shut()
    if shut is not None and (t is None or shut <= t):
        return ("shut", pair(shut))
    told, counts = [], []
    last = one.state()
    while True:
        wait = one.wait()
        if wait is None or (t is not None and one.now + wait > t):
            if t is None:
                return ("gone", told, counts) + last
            one.go(t - one.now)
            return ("gone", told, counts) + one.state()
        one.go(wait)
        for group in one.groups():
            told.append((pair(one.now),) + group[:3])
            counts.append(group[3])
            if not one.rebound(group):
                return ("together", pair(one.now))
        if len(told) > most:
            return ("many", told)
        last = one.state()


def counts_of(stepped_so):
    """The meetings and knocks, as 5.2 counts them, of a run that was stepped."""
    counts = {"": 0, "low": 0, "high": 0}
    for (moment, first, last, where), came in zip(stepped_so[1], stepped_so[2]):
        many = last - first + 1
        counts[""] += many * (many - 1) if where else many * (many - 1) // 2
        if where:
            counts[where] += came
    return (counts[""], counts["low"], counts["high"])


def stretches(row, walls, end):
    """The run to a moment, a fraction, as a list of (from, to, balls), between which nothing comes; each ball's place
    and speed are those at from."""
    one = Stepper(row, walls)
    told = []
    while one.now < end:
        wait = one.wait()
        until = end if wait is None else min(end, one.now + wait)
        told.append((one.now, until, [tuple(each[:2]) for each in one.balls]))
        one.go(until - one.now)
        for group in one.groups():
            one.rebound(group)
    return told


def moments_at(row, walls, k, place, end):
    """The first moment of each stretch of the run at which ball k is at a place, rising; all are fractions."""
    found = []
    for begin, until, balls in stretches(row, walls, end):
        at, speed = balls[k]
        if at == place:
            found.append(begin)
        elif speed != 0 and begin < begin + (place - at) / speed <= until:
            found.append(begin + (place - at) / speed)
    return sorted(set(found))
