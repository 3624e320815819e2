"""Rows of balls (place, speed, weight), and the walls (low, high) that they are between."""

from clackrow.ratios import is_ratio, is_tuple, is_whole, less, over, plus, ratio, sum_of, times

MOST_BALLS = 8
MOST_WEIGHT = 1000
NOUGHT = (0, 1)


def is_wall(thing):
    """Whether thing is one wall of a pair: None, or a place and a speed."""
    if thing is None:
        return True
    return is_tuple(thing, 2) and is_ratio(thing[0]) and is_ratio(thing[1])


def is_wall_pair(thing):
    """Whether thing is a pair of walls, wherever they are."""
    return is_tuple(thing, 2) and is_wall(thing[0]) and is_wall(thing[1])


def walls_good(thing):
    """Whether thing is walls."""
    if not is_wall_pair(thing):
        return False
    low, high = thing
    return low is None or high is None or less(low[0], high[0])


def is_ball_form(thing):
    """Whether thing has a ball's form, whatever whole number its weight is."""
    return is_tuple(thing, 3) and is_ratio(thing[0]) and is_ratio(thing[1]) and is_whole(thing[2])


def is_row_form(thing):
    """Whether thing has a row's form, however many balls it has and wherever they are."""
    return isinstance(thing, tuple) and len(thing) > 0 and all([is_ball_form(ball) for ball in thing])


def is_weight(thing):
    """Whether thing is a ball's weight."""
    return is_whole(thing) and 1 <= thing <= MOST_WEIGHT


def is_ball(thing):
    """Whether thing is a ball."""
    return is_ball_form(thing) and is_weight(thing[2])


def follows(left, right):
    """Whether right, a place and a speed first in it, is ahead of left, or there and about to part from it."""
    if left[0] == right[0]:
        return less(left[1], right[1])
    return less(left[0], right[0])


def is_ordered(row):
    """Whether each two neighbours stand as in a row."""
    return all([follows(left, right) for left, right in zip(row, row[1:])])


def keeps_side(left, right):
    """Whether right is ahead of left, or there and doesn't go into it: so is a ball to a wall."""
    # Other than between two balls, a ball and a wall at one place may have one speed.
    return left[:2] == right[:2] or follows(left, right)


def is_between(walls, row):
    """Whether the row keeps to its side of each wall."""
    low, high = walls
    if low is not None and not keeps_side(low, row[0]):
        return False
    return high is None or keeps_side(row[-1], high)


def is_row(walls, thing):
    """Whether thing is a row between walls."""
    if not walls_good(walls) or not isinstance(thing, tuple):
        return False
    if not 1 <= len(thing) <= MOST_BALLS or not all([is_ball(ball) for ball in thing]):
        return False
    return is_ordered(thing) and is_between(walls, thing)


def is_even(row):
    """Whether all weights of the row are alike."""
    return is_row_form(row) and all([ball[2] == row[0][2] for ball in row])


def is_still(walls):
    """Whether no wall has a speed but nought."""
    return is_wall_pair(walls) and all([wall is None or wall[1] == NOUGHT for wall in walls])


def push_of(row):
    """The sum of weight times speed."""
    return sum_of([times(ratio(weight), speed) for place, speed, weight in row])


def energy_of(row):
    """The sum of weight times speed times speed."""
    return sum_of([times(ratio(weight), times(speed, speed)) for place, speed, weight in row])


def middle_of(row):
    """The sum of weight times place by the sum of the weights."""
    moved = sum_of([times(ratio(weight), place) for place, speed, weight in row])
    return over(moved, ratio(sum([ball[2] for ball in row])))


def framed_wall(wall, speed):
    """The wall, if there is one, with the speed added to its own."""
    if wall is None:
        return None
    return (wall[0], plus(wall[1], speed))


def framed(row, walls, speed):
    """Row and walls with the speed added to all speeds."""
    balls = [(place, plus(own, speed), weight) for place, own, weight in row]
    low, high = walls
    return (tuple(balls), (framed_wall(low, speed), framed_wall(high, speed)))
