"""Broad balls (place, speed, weight, width), each reaching from its place to place and width.

Thinned, all widths being taken out of the line, they are balls of a row, and what comes to that row comes to them.
"""

from clackrow.ratios import is_ratio, is_tuple, less, minus, plus
from clackrow.rows import NOUGHT, is_ball, is_row, is_wall_pair
from clackrow.runs import gone


def is_broad_ball(thing):
    """Whether thing is a broad ball."""
    return is_tuple(thing, 4) and is_ball(thing[:3]) and is_ratio(thing[3]) and not less(thing[3], NOUGHT)


def widths_ahead(widths):
    """For each ball the widths of all ahead of it, and last the sum of all: a list with one more than there are."""
    sums = [NOUGHT]
    for width in widths:
        sums.append(plus(sums[-1], width))
    return sums


def wall_moved(wall, way):
    """The wall, if there is one, at a place so far on."""
    if wall is None:
        return None
    return (plus(wall[0], way), wall[1])


def widths_of(broad):
    """The widths of all balls."""
    return [width for place, speed, weight, width in broad]


def is_broad(walls, thing):
    """Whether thing is a broad row between walls."""
    if not is_wall_pair(walls) or not isinstance(thing, tuple) or not all([is_broad_ball(ball) for ball in thing]):
        return False
    row, thin_walls = thinned(thing, walls)
    return is_row(thin_walls, row)


def thinned(broad, walls):
    """The row and the walls that are left where all widths are taken out."""
    ahead = widths_ahead(widths_of(broad))
    row = [(minus(ball[0], taken), ball[1], ball[2]) for ball, taken in zip(broad, ahead)]
    return (tuple(row), (walls[0], wall_moved(walls[1], minus(NOUGHT, ahead[-1]))))


def broadened(row, widths):
    """The broad row of balls with these widths."""
    balls = []
    for ball, width, given in zip(row, widths, widths_ahead(widths)):
        balls.append((plus(ball[0], given), ball[1], ball[2], width))
    return tuple(balls)


def broad_gone(broad, walls, t):
    """Broad row and walls at t; Shut, Together, TooMany."""
    widths = widths_of(broad)
    thin, thin_walls = thinned(broad, walls)
    row, walls_then = gone(thin, thin_walls, t)
    return (broadened(row, widths), (walls_then[0], wall_moved(walls_then[1], widths_ahead(widths)[-1])))
