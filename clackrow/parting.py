"""Walls that part: how many knocks ever come at each, of balls of one weight between them."""

from clackrow.errors import NoEnd, NotEven
from clackrow.ratios import less, minus, over
from clackrow.rows import is_even


def rounded_up(one):
    """The least whole number that is not below one."""
    return -(-one[0] // one[1])


def knocks_by_turns(excess, parting):
    """How many knocks a ball alone has at the wall that it comes to first, and at the other one; by excess it is
    faster than the first one parts from it."""
    # At each knock the excess, seen from the wall that it goes to next, is less by what the walls part.
    many = rounded_up(over(excess, parting))
    return ((many + 1) // 2, many // 2)


def knocks_of(speed, low, high):
    """How many knocks a ball of this speed, alone, ever has at low and at high, walls of these speeds."""
    parting = minus(high, low)
    if less(high, speed):
        at_high, at_low = knocks_by_turns(minus(speed, high), parting)
        return (at_low, at_high)
    if less(speed, low):
        return knocks_by_turns(minus(low, speed), parting)
    return (0, 0)


def knocks_ever(row, walls):
    """How many knocks ever come at low and at high; NotEven, NoEnd."""
    if not is_even(row):
        raise NotEven("the row is not even")
    low, high = walls
    if low is None or high is None or not less(low[1], high[1]):
        raise NoEnd("there are not two walls that part")
    # Balls of one weight exchange speeds where they meet, so that each counts as though it were alone.
    knocks = [knocks_of(speed, low[1], high[1]) for place, speed, weight in row]
    return (sum([at_low for at_low, at_high in knocks]), sum([at_high for at_low, at_high in knocks]))
