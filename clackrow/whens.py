"""First moments: when a ball of an even row between two walls that stand is at a place, or that it never is."""

from clackrow.courses import Course, least_multiple, moment_of, refine, ticks_of
from clackrow.errors import TooMany
from clackrow.lines import line_at, passes, refuse_no_ball, refuse_no_box, refuse_no_place, trip_of
from clackrow.rounds import round_of

MOST_LOOKED_AT = 1000


def gaps_to(course, spot):
    """Of each line that moves, for its way there and its way back, its speed and by how much it has gone on, but for
    whole trips, where it is at the spot: a list of pairs."""
    gaps = []
    for start, speed in course.tracks:
        if speed != 0:
            gaps.append((speed, spot - start))
            gaps.append((speed, 2 * course.low[0] - spot - start))
    return gaps


def refuse_too_many(gaps, trip, begin, end):
    """TooMany where one way of one line already brings too many moments, so that they need not all be written."""
    for speed, gap in gaps:
        # One of these may be end itself, which is not looked at; but begin is.
        if passes(speed, gap, trip, end) - passes(speed, gap, trip, begin) > MOST_LOOKED_AT:
            raise TooMany("more moments are to be looked at than are told")


def moments_between(gap, trip, bottom, begin, end):
    """The moments above begin and below end, all three by bottom, at which a line has gone on by its gap; gap is a
    pair (speed, gap), and speed divides bottom."""
    speed, way = gap
    offset = way * (bottom // speed)
    step = trip * (bottom // abs(speed))
    first = begin + 1 + (offset - begin - 1) % step
    return list(range(first, end, step))


def looked_at(course, spot, begin, lasting):
    """The moments looked at, from begin on for a time that is lasting, both in ticks: a rising list of whole numbers,
    and the bottom that they are by; TooMany."""
    if lasting is None:
        return ([begin[0]], begin[1])
    gaps = gaps_to(course, spot)
    bottom = least_multiple([begin[1], lasting[1]])
    first = begin[0] * (bottom // begin[1])
    last = first + lasting[0] * (bottom // lasting[1])
    refuse_too_many(gaps, trip_of(course), begin, (last, bottom))
    finer = least_multiple([bottom] + [abs(speed) for speed, gap in gaps])
    first, last = first * (finer // bottom), last * (finer // bottom)
    moments = [first]
    for gap in gaps:
        moments += moments_between(gap, trip_of(course), finer, first, last)
    rising = sorted(set(moments))
    if len(rising) > MOST_LOOKED_AT:
        raise TooMany("more moments are to be looked at than are told")
    return (rising, finer)


def is_there(course, k, spot, ticks):
    """Whether ball k is at the spot at a moment."""
    spots = [line_at(course, track, ticks)[0] for track in course.tracks]
    wide = spot * ticks[1]
    below = len([one for one in spots if one < wide])
    return below <= k < below + spots.count(wide)


def when(row, walls, k, place, t):
    """The first moment from t on at which ball k is at the place, or that it never is; NotEven, NoBall, NoPlace,
    TooMany."""
    refuse_no_box(row, walls)
    refuse_no_ball(len(row), k)
    refuse_no_place(walls, place)
    course = Course(row, walls)
    refine(course, least_multiple([course.place_bottom, place[1]]) // course.place_bottom)
    spot = place[0] * (course.place_bottom // place[1])
    found = round_of(row, walls)
    lasting = None if found is None else ticks_of(course, found[0])
    moments, bottom = looked_at(course, spot, ticks_of(course, t), lasting)
    for moment in moments:
        if is_there(course, k, spot, (moment, bottom)):
            return ("at", moment_of(course, (moment, bottom)))
    return ("never", [moment_of(course, (moment, bottom)) for moment in moments])


def lets_never(row, walls, k, place, t, moments):
    """Whether these are the moments looked at and ball k is at the place at none of them; refuses as when does."""
    return when(row, walls, k, place, t) == ("never", list(moments))
