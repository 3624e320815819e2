"""Rounds: after how long a row of balls of one weight between two walls that stand is just what it was."""

from clackrow.courses import Course, least_multiple, moment_of
from clackrow.lines import refuse_no_box, trip_of
from clackrow.ratios import greatest_divisor, ratio

# A row has at most eight balls, so many is at most 8, and so is a prime by which it could be greater.
PRIMES = (2, 3, 5, 7)


def phases_of(course):
    """The phases of the balls that move, as a dict of lists by their paces."""
    trip = trip_of(course)
    phases = {}
    for start, speed in course.tracks:
        way = start - course.low[0]
        if speed > 0:
            phases.setdefault(speed, []).append(way)
        elif speed < 0:
            phases.setdefault(-speed, []).append(trip - way)
    return phases


def comes_again(phases, trip, many):
    """Whether the phases, each put on by trip / many, are the same ones again."""
    # All is taken many times, as trip / many need not be whole.
    wide = [phase * many for phase in phases]
    return sorted(wide) == sorted([(phase + trip) % (trip * many) for phase in wide])


def greatest_many(phases, trip):
    """The greatest number by which the phases come again."""
    # It is never above how many phases there are, as one of them would then be put between two others.
    return max([many for many in range(1, len(phases) + 1) if comes_again(phases, trip, many)])


def is_greatest_many(phases, trip, many):
    """Whether the phases come again by many, and by no greater number; many is any whole number."""
    if many < 1 or not comes_again(phases, trip, many):
        return False
    return not any([comes_again(phases, trip, many * prime) for prime in PRIMES])


def least_round(course, manies):
    """The least moment that is a whole multiple of trip / (many * pace) for all pairs (pace, many)."""
    trip = trip_of(course)
    parts = [moment_of(course, (trip, many * pace)) for pace, many in manies]
    divisor = 0
    for top, bottom in parts:
        divisor = greatest_divisor(bottom, divisor)
    return ratio(least_multiple([top for top, bottom in parts]), divisor)


def round_of(row, walls):
    """The round and its paper, None where no ball moves; NotEven."""
    refuse_no_box(row, walls)
    course = Course(row, walls)
    phases = phases_of(course)
    if len(phases) == 0:
        return None
    manies = [(pace, greatest_many(phases[pace], trip_of(course))) for pace in sorted(phases)]
    return (least_round(course, manies), [(ratio(pace, course.speed_bottom), many) for pace, many in manies])


def lets_round(row, walls, moment, paper):
    """Whether moment is the round and paper its paper; NotEven."""
    refuse_no_box(row, walls)
    course = Course(row, walls)
    phases = phases_of(course)
    paces = sorted(phases)
    if len(paces) == 0 or [pace for pace, many in paper] != [ratio(pace, course.speed_bottom) for pace in paces]:
        return False
    manies = list(zip(paces, [many for pace, many in paper]))
    if not all([is_greatest_many(phases[pace], trip_of(course), many) for pace, many in manies]):
        return False
    return moment == least_round(course, manies)
