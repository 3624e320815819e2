"""The next coming of a row: when some balls come together, or to a wall, and which."""

from clackrow.courses import Course, groups_at, moment_of, placed, rebound, shut_moment, soonest
from clackrow.errors import Shut


def first_ticks(course, walls):
    """The ticks of the next coming, None where nothing ever comes; Shut."""
    ticks = soonest(course)
    if ticks is None:
        return None
    shut = shut_moment(walls)
    if shut is not None and shut == moment_of(course, ticks):
        raise Shut(shut)
    return ticks


def next_coming(row, walls):
    """The moment of the next coming and its groups, or None; Shut."""
    course = Course(row, walls)
    ticks = first_ticks(course, walls)
    if ticks is None:
        return None
    return (moment_of(course, ticks), groups_at(course, ticks))


def behind(row, walls):
    """The moment of the next coming, and row and walls behind it, or None; Shut, then Together."""
    course = Course(row, walls)
    ticks = first_ticks(course, walls)
    if ticks is None:
        return None
    for group in groups_at(course, ticks):
        rebound(course, group, ticks)
    row_then, walls_then = placed(course, ticks)
    return (moment_of(course, ticks), row_then, walls_then)
