"""Runs: rows and walls that go from coming to coming, to a moment, to the end, and back."""

from clackrow.courses import Course, came_to_wall, groups_at, moment_of, placed, rebound, shut_moment, soonest, ticks_of
from clackrow.errors import NoEnd, Shut, TooMany
from clackrow.ratios import less, ratio
from clackrow.rows import is_row_form, is_wall_pair

MOST_GROUPS = 400
# What moment 0 is in ticks, whatever the tick.
BEGINNING = (0, 1)


def walk(course, end):
    """Takes the course behind all comings up to and at end, or all there are where end is None, and tells them as
    a list of (ticks, group, how many came to its wall); Together, TooMany."""
    steps = []
    ticks = soonest(course)
    while ticks is not None and (end is None or not less(end, ticks)):
        for group in groups_at(course, ticks):
            steps.append((ticks, group, came_to_wall(course, group)))
            rebound(course, group, ticks)
        # Not within the loop above: all groups of one moment are asked for Together first.
        if len(steps) > MOST_GROUPS:
            raise TooMany("more groups come than are told")
        ticks = soonest(course)
    return steps


def refuse_shut(walls, t):
    """Shut where the walls meet at t or ahead of it."""
    shut = shut_moment(walls)
    if shut is not None and not less(t, shut):
        raise Shut(shut)


def steps_to(row, walls, t):
    """The steps of a walk to t, and the course behind them; Shut, Together, TooMany."""
    refuse_shut(walls, t)
    course = Course(row, walls)
    return (walk(course, ticks_of(course, t)), course)


def told_steps(course, steps):
    """The comings of a walk, as they are told."""
    told = []
    for ticks, group, came in steps:
        first, last, where = group
        told.append((moment_of(course, ticks), first, last, where))
    return told


def comings(row, walls, t):
    """All groups up to and at t; Shut, Together, TooMany."""
    steps, course = steps_to(row, walls, t)
    return told_steps(course, steps)


def gone(row, walls, t):
    """Row and walls at t, behind all comings up to and at t; Shut, Together, TooMany."""
    steps, course = steps_to(row, walls, t)
    return placed(course, ticks_of(course, t))


def is_quiet(row, walls):
    """Whether nothing ever comes."""
    # What is no row is not quiet. Ahead of walls that meet some ball comes to one of them, so those need not be asked.
    return is_row_form(row) and is_wall_pair(walls) and soonest(Course(row, walls)) is None


def ended(row, walls):
    """All comings, and row and walls behind the last one; NoEnd, Together, TooMany."""
    if walls[0] is not None and walls[1] is not None:
        raise NoEnd("between two walls comings may never end")
    course = Course(row, walls)
    steps = walk(course, None)
    last = BEGINNING if len(steps) == 0 else steps[-1][0]
    row_then, walls_then = placed(course, last)
    return (told_steps(course, steps), row_then, walls_then)


def opposite(one):
    """The ratio less than nought by what this one is above."""
    return ratio(-one[0], one[1])


def wall_back(wall):
    """The wall, if there is one, with its speed's opposite."""
    return None if wall is None else (wall[0], opposite(wall[1]))


def turned(row, walls):
    """Row and walls with all speeds by their opposites, behind what comes together by that at once; Together."""
    balls = [(place, opposite(speed), weight) for place, speed, weight in row]
    course = Course(balls, (wall_back(walls[0]), wall_back(walls[1])))
    for group in groups_at(course, BEGINNING):
        rebound(course, group, BEGINNING)
    return placed(course, BEGINNING)
