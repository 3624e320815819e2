"""Rows and walls under way, reckoned in whole numbers.

Each ball and each wall has a track (start, speed): start is where it would have been at moment 0, had it always
gone as it goes now. A rebound changes starts by the very rule by which it changes speeds, so that both stay short,
however many rebounds there were; places at the moments of comings don't.
"""

from clackrow.errors import Together
from clackrow.ratios import greatest_divisor, less, minus, over, ratio


class Course:
    """Starts are whole numbers by place_bottom, speeds by speed_bottom, and moments are told in ticks: pairs
    (top, bottom), not always in lowest terms. In a tick, whatever has the speed 1 goes on from 0 to 1."""

    def __init__(self, row, walls):
        things = list(row) + [wall for wall in walls if wall is not None]
        self.place_bottom = common_bottom([thing[0] for thing in things])
        self.speed_bottom = common_bottom([thing[1] for thing in things])
        self.tick = ratio(self.speed_bottom, self.place_bottom)
        self.weights = [ball[2] for ball in row]
        self.tracks = [track_of(self, ball) for ball in row]
        self.low = track_of(self, walls[0])
        self.high = track_of(self, walls[1])


def least_multiple(numbers):
    """The least whole number above 0 that all these, which are above 0, divide."""
    common = 1
    for number in numbers:
        common = common // greatest_divisor(common, number) * number
    return common


def common_bottom(ratios):
    """The least whole number that all bottoms divide."""
    return least_multiple([bottom for top, bottom in ratios])


def track_of(course, thing):
    """The track of a ball or a wall at moment 0; None where there is no wall."""
    if thing is None:
        return None
    start = thing[0][0] * (course.place_bottom // thing[0][1])
    return (start, thing[1][0] * (course.speed_bottom // thing[1][1]))


def ticks_of(course, moment):
    """The moment in ticks."""
    return over(moment, course.tick)


def moment_of(course, ticks):
    """The ratio of a moment that is told in ticks."""
    return ratio(ticks[0] * course.tick[0], ticks[1] * course.tick[1])


def shut_moment(walls):
    """The moment at which the walls meet; None where they never do."""
    low, high = walls
    if low is None or high is None or not less(high[1], low[1]):
        return None
    return over(minus(high[0], low[0]), minus(low[1], high[1]))


def soonest(course):
    """The ticks of the next coming; None where nothing ever comes."""
    chain = [track for track in [course.low] + course.tracks + [course.high] if track is not None]
    found = None
    for left, right in zip(chain, chain[1:]):
        # As no two neighbours are past one another, those that near each other meet later than now.
        if left[1] > right[1]:
            ticks = (right[0] - left[0], left[1] - right[1])
            if found is None or less(ticks, found):
                found = ticks
    return found


def spot_at(track, ticks):
    """Where a track is, by place_bottom times the bottom of the ticks."""
    return track[0] * ticks[1] + track[1] * ticks[0]


def side_at(course, spot, ticks):
    """What is told of a group at this spot."""
    if course.low is not None and spot == spot_at(course.low, ticks):
        return "low"
    if course.high is not None and spot == spot_at(course.high, ticks):
        return "high"
    return ""


def groups_at(course, ticks):
    """The groups at a moment, all speeds being those ahead of it, from left to right."""
    spots = [spot_at(track, ticks) for track in course.tracks]
    groups = []
    first = 0
    for last, spot in enumerate(spots):
        if last + 1 == len(spots) or spots[last + 1] != spot:
            group = (first, last, side_at(course, spot, ticks))
            if first < last or came_to_wall(course, group) > 0:
                groups.append(group)
            first = last + 1
    return groups


def wall_of(course, where):
    """The track of the wall at which a group is; None where it is at none."""
    if where == "":
        return None
    return course.low if where == "low" else course.high


def came_to_wall(course, group):
    """How many balls of a group came to its wall, all speeds being those ahead of it."""
    first, last, where = group
    wall = wall_of(course, where)
    if wall is None:
        return 0
    # A ball that is there with the wall's own speed rests at it.
    return len([track for track in course.tracks[first:last + 1] if track[1] != wall[1]])


def rebound(course, group, ticks):
    """Gives the balls of a group, at that moment, the tracks behind it; Together."""
    first, last, where = group
    wall = wall_of(course, where)
    weights = course.weights[first:last + 1]
    if wall is None and len(weights) == 2:
        part(course, first)
    elif all([weight == weights[0] for weight in weights]):
        deal(course, first, last, wall)
    else:
        raise Together(moment_of(course, ticks))


def deal(course, first, last, wall):
    """Rebounds balls of one weight, one of them or more, at a wall or at none."""
    tracks = course.tracks[first:last + 1]
    if wall is not None:
        # One that rests at the wall has the wall's own track, and keeps it.
        tracks = [(2 * wall[0] - start, 2 * wall[1] - speed) for start, speed in tracks]
    course.tracks[first:last + 1] = sorted(tracks, key=lambda track: track[1])


def part(course, first):
    """Rebounds two neighbours of whatever weights."""
    left, right = course.weights[first:first + 2]
    one, other = course.tracks[first:first + 2]
    divisor = greatest_divisor(left + right, 2 * left)
    refine(course, (left + right) // divisor)
    pull = 2 * right // divisor
    back = 2 * left // divisor
    ahead = (left - right) // divisor
    course.tracks[first] = (ahead * one[0] + pull * other[0], ahead * one[1] + pull * other[1])
    course.tracks[first + 1] = (back * one[0] - ahead * other[0], back * one[1] - ahead * other[1])


def refine(course, many):
    """Makes the bottoms greater, so many times, all tracks staying what they are."""
    course.place_bottom *= many
    course.speed_bottom *= many
    course.tracks = [refined(track, many) for track in course.tracks]
    course.low = refined(course.low, many)
    course.high = refined(course.high, many)


def refined(track, many):
    """The track by bottoms that are so many times greater; None where there is no wall."""
    if track is None:
        return None
    return (track[0] * many, track[1] * many)


def place_and_speed(course, track, ticks):
    """The ratios of a track's place at a moment and its speed; None where there is no wall."""
    if track is None:
        return None
    place = ratio(spot_at(track, ticks), course.place_bottom * ticks[1])
    return (place, ratio(track[1], course.speed_bottom))


def placed(course, ticks):
    """Row and walls at a moment."""
    spots = [place_and_speed(course, track, ticks) for track in course.tracks]
    row = [(place, speed, weight) for (place, speed), weight in zip(spots, course.weights)]
    walls = (place_and_speed(course, course.low, ticks), place_and_speed(course, course.high, ticks))
    return (tuple(row), walls)
