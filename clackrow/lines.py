"""At once: rows of balls of one weight between walls that stand, at any moment, and how often balls met by then.

Each ball's line is its way as though it were alone. Where two balls of one weight meet they exchange speeds, so that
the row is always where the lines are.
"""

from clackrow.courses import Course, ticks_of
from clackrow.errors import NoBall, NoPlace, NotEven
from clackrow.ratios import less, ratio
from clackrow.rows import is_even, is_still
from clackrow.runs import steps_to


def is_plain(row, walls):
    """Whether all is told at once of this row."""
    return is_even(row) and is_still(walls)


def refuse_uneven(row, walls):
    """NotEven unless all is told at once of this row."""
    if not is_plain(row, walls):
        raise NotEven("the row is not even, or a wall is not still")


def refuse_no_box(row, walls):
    """NotEven unless this is an even row between two still walls."""
    refuse_uneven(row, walls)
    if walls[0] is None or walls[1] is None:
        raise NotEven("there are not two walls")


def refuse_no_ball(many, k):
    """NoBall unless k is the number of one of so many balls."""
    if not 0 <= k < many:
        raise NoBall("there is no ball of this number")


def refuse_no_place(walls, place):
    """NoPlace where the place is outside the two walls."""
    if less(place, walls[0][0]) or less(walls[1][0], place):
        raise NoPlace("the place is outside the walls")


def trip_of(course):
    """How far it is from wall to wall and back; None unless there are two."""
    if course.low is None or course.high is None:
        return None
    return 2 * (course.high[0] - course.low[0])


def line_at(course, track, ticks):
    """The spot of a line at a moment, by place_bottom times the bottom of the ticks, and its speed then."""
    top, bottom = ticks
    spot = track[0] * bottom + track[1] * top
    speed = track[1]
    low = None if course.low is None else course.low[0] * bottom
    high = None if course.high is None else course.high[0] * bottom
    if low is not None and high is not None:
        # Whole trips there and back change nothing.
        spot = low + (spot - low) % (2 * (high - low))
    elif low is not None and spot < low:
        spot, speed = 2 * low - spot, -speed
    if high is not None and spot > high:
        spot, speed = 2 * high - spot, -speed
    # Just at a wall the speed behind counts.
    if low is not None and spot == low:
        speed = abs(speed)
    if high is not None and spot == high:
        speed = -abs(speed)
    return (spot, speed)


def at_once(row, walls, t):
    """The row at t; NotEven."""
    refuse_uneven(row, walls)
    course = Course(row, walls)
    ticks = ticks_of(course, t)
    bottom = course.place_bottom * ticks[1]
    lines = sorted([line_at(course, track, ticks) for track in course.tracks])
    return tuple([(ratio(spot, bottom), ratio(speed, course.speed_bottom), row[0][2]) for spot, speed in lines])


def passes(speed, gap, trip, ticks):
    """How many moments above nought and not above ticks there are at which what has this speed has gone on by gap,
    or, where trip is not None, by gap and any number of trips."""
    # Speed 0 leads to none below, as it should: no two lines are one, and what rests at a wall doesn't come to it.
    if speed < 0:
        speed, gap = -speed, -gap
    top, bottom = ticks
    beyond = speed * top - gap * bottom
    if trip is None:
        return 1 if gap > 0 and beyond >= 0 else 0
    return beyond // (trip * bottom) - (-gap) // trip


def met(course, i, j, ticks):
    """How many meetings two lines have by then."""
    one, other = course.tracks[i], course.tracks[j]
    trip = trip_of(course)
    straight = passes(one[1] - other[1], other[0] - one[0], trip, ticks)
    wall = course.high if course.low is None else course.low
    if wall is None:
        return straight
    # With walls a line also meets the other's mirror image; at a wall it meets both at once, which are two meetings.
    return straight + passes(one[1] + other[1], 2 * wall[0] - other[0] - one[0], trip, ticks)


def lines_met(row, walls, i, j, t):
    """How many meetings the lines of balls i and j have by t; NotEven, NoBall."""
    refuse_uneven(row, walls)
    refuse_no_ball(len(row), i)
    refuse_no_ball(len(row), j)
    course = Course(row, walls)
    return met(course, i, j, ticks_of(course, t))


def knocks(course, wall, ticks):
    """How often lines come to a wall by then, which may not be there."""
    if wall is None:
        return 0
    trip = trip_of(course)
    return sum([passes(speed, wall[0] - start, trip, ticks) for start, speed in course.tracks])


def counted_at_once(course, ticks):
    """What is counted of an even row between still walls."""
    meetings = sum([met(course, i, j, ticks) for j in range(len(course.tracks)) for i in range(j)])
    return (meetings, knocks(course, course.low, ticks), knocks(course, course.high, ticks))


def counted_steps(steps):
    """What is counted of the steps of a walk."""
    meetings = low = high = 0
    for ticks, (first, last, where), came in steps:
        pairs = (last - first + 1) * (last - first) // 2
        meetings += pairs if where == "" else 2 * pairs
        low += came if where == "low" else 0
        high += came if where == "high" else 0
    return (meetings, low, high)


def counted(row, walls, t):
    """The meetings, and the knocks at low and at high, by t; where that is not told at once Shut, Together, TooMany."""
    if is_plain(row, walls):
        course = Course(row, walls)
        return counted_at_once(course, ticks_of(course, t))
    return counted_steps(steps_to(row, walls, t)[0])
