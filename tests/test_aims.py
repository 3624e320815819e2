import inspect
import random
import unittest
from fractions import Fraction

from clackrow import aims as aims_file
from clackrow.aims import aims
from clackrow.errors import NoBall, NoPlace, NotEven
from clackrow.rows import is_row
from tests.things import NOUGHT, OPEN, ball, box, chance_row, high_at, low_at, pair, row_of, stepped, value_of, wall

GREAT = 10 ** 60
FAR = 10 ** 30
BOX = box(0, 10)


def stretch(first, last=None):
    return (pair(first), pair(first if last is None else last))


def with_one_more(row, walls, x, speed):
    """The row with one ball more; None where that is no row."""
    low, high = [value_of(one[0]) for one in walls]
    if x == low:
        speed = abs(speed)
    if x == high:
        speed = -abs(speed)
    spots = sorted([(value_of(one[0]), value_of(one[1])) for one in row] + [(x, speed)])
    more = tuple([ball(place, own, row[0][2]) for place, own in spots])
    return more if is_row(walls, more) else None


def hits(row, walls, x, speed, k, place, t):
    """Whether, by stepping, ball k is at the place at t with one ball more that begins at x; None where that is no
    row."""
    more = with_one_more(row, walls, x, speed)
    if more is None:
        return None
    return value_of(stepped(more, walls, t, most=10 ** 6)[3][k][0]) == place


class Aims(unittest.TestCase):
    def test_at_once_where_it_begins(self):
        row = row_of((4, 1))
        self.assertEqual(aims(row, BOX, (1, 1), 0, (3, 1), NOUGHT), [stretch(3)])
        self.assertEqual(aims(row, BOX, (-1, 1), 1, (3, 1), NOUGHT), [])
        self.assertEqual(aims(row, BOX, (1, 1), 1, (7, 1), NOUGHT), [stretch(7)])
        self.assertEqual(aims(row, BOX, (1, 1), 0, (4, 1), NOUGHT), [stretch(4, 10)])
        self.assertEqual(aims(row, BOX, (1, 1), 1, (4, 1), NOUGHT), [stretch(0, 4)])

    def test_speeds_above_below_and_of_nought(self):
        row = row_of((9, 0))
        self.assertEqual(aims(row, BOX, (0, 1), 0, (3, 1), (5, 1)), [stretch(3)])
        self.assertEqual(aims(row, BOX, (1, 1), 0, (3, 1), (2, 1)), [stretch(1)])
        self.assertEqual(aims(row, BOX, (-1, 1), 0, (3, 1), (2, 1)), [stretch(5)])
        # Straight from 1, or from 9 with a rebound at the wall, and the other way about.
        self.assertEqual(aims(row, BOX, (1, 1), 0, (6, 1), (5, 1)), [stretch(1), stretch(9)])
        self.assertEqual(aims(row, BOX, (-1, 1), 0, (4, 1), (5, 1)), [stretch(1), stretch(9)])

    def test_stretches(self):
        row = row_of((4, 0))
        # The first ball of two is at 4 wherever the other one is from 4 on.
        self.assertEqual(aims(row, BOX, (0, 1), 0, (4, 1), (7, 1)), [stretch(4, 10)])
        self.assertEqual(aims(row, BOX, (1, 1), 0, (4, 1), (2, 1)), [stretch(2, 10)])
        self.assertEqual(aims(row, BOX, (1, 1), 1, (4, 1), (2, 1)), [stretch(0, 2)])
        self.assertEqual(aims(row, BOX, (1, 1), 1, (4, 1), (8, 1)), [stretch(8, 10)])
        self.assertEqual(aims(row, BOX, (1, 1), 0, (4, 1), (8, 1)), [stretch(0, 8)])
        self.assertEqual(aims(row, BOX, (-1, 1), 0, (4, 1), (2, 1)), [stretch(6, 10)])
        self.assertEqual(aims(row, BOX, (-1, 1), 0, (4, 1), (7, 1)), [stretch(0, 3)])

    def test_two_stretches(self):
        row = row_of((4, 0))
        # From 9 on it is not yet back at 4; up to 1 it is thrown back past it by low.
        self.assertEqual(aims(row, BOX, (-1, 1), 0, (4, 1), (5, 1)), [stretch(0, 1), stretch(9, 10)])
        self.assertEqual(aims(row, BOX, (-1, 1), 1, (4, 1), (5, 1)), [stretch(1, 9)])

    def test_stretches_that_meet(self):
        # Three of the row are at 5 at once, so that the second and third of four are there wherever the other is.
        row = row_of((4, 1), (5, 0), (6, -1))
        for k, speed in [(1, 0), (2, 0), (1, 3), (2, -7)]:
            self.assertEqual(aims(row, BOX, pair(speed), k, (5, 1), (1, 1)), [stretch(0, 10)])
        self.assertEqual(aims(row, BOX, (0, 1), 0, (5, 1), (1, 1)), [stretch(5, 10)])
        self.assertEqual(aims(row, BOX, (0, 1), 3, (5, 1), (1, 1)), [stretch(0, 5)])
        self.assertEqual(aims(row, BOX, (7, 1), 1, (5, 1), (1, 1)), [stretch(0, 10)])
        # Just as high's rebound parts them at the place itself.
        row = row_of((5, 0))
        self.assertEqual(aims(row, BOX, (1, 1), 0, (5, 1), (5, 1)), [stretch(0, 10)])
        self.assertEqual(aims(row, BOX, (1, 1), 1, (5, 1), (5, 1)), [stretch(0), stretch(10)])

    def test_at_the_walls(self):
        row = row_of((4, 0))
        self.assertEqual(aims(row, BOX, (1, 1), 1, (10, 1), (3, 1)), [stretch(7)])
        self.assertEqual(aims(row, BOX, (-1, 1), 0, (0, 1), (3, 1)), [stretch(3)])
        self.assertEqual(aims(row, BOX, (1, 1), 0, (0, 1), (10, 1)), [stretch(10)])
        self.assertEqual(aims(row, BOX, (1, 1), 0, (0, 1), (20, 1)), [stretch(0)])
        self.assertEqual(aims(row, BOX, (-1, 1), 1, (10, 1), (10, 1)), [stretch(0)])
        self.assertEqual(aims(row, BOX, (1, 1), 1, (10, 1), (10, 1)), [stretch(0)])
        self.assertEqual(aims(row, BOX, (1, 1), 1, (10, 1), (20, 1)), [stretch(10)])
        # At a wall that its speed goes into it is thrown back at once.
        self.assertEqual(aims(row, BOX, (-1, 1), 0, (3, 1), (3, 1)), [stretch(0), stretch(6)])
        self.assertEqual(aims(row, BOX, (1, 1), 1, (7, 1), (3, 1)), [stretch(4), stretch(10)])

    def test_none(self):
        row = row_of((4, 0), (6, 0))
        for k, place in [(0, 7), (1, 3), (1, 7), (2, 3), (2, 5), (0, 5)]:
            self.assertEqual(aims(row, BOX, (3, 1), k, pair(place), (11, 3)), [])

    def test_far_moments(self):
        row = row_of((4, 1), (7, -2))
        for t in [0, 3, "17/5"]:
            for k in [0, 1, 2]:
                for place in [0, 3, "21/5", 10]:
                    near = aims(row, BOX, (3, 1), k, pair(place), pair(t))
                    self.assertEqual(aims(row, BOX, (3, 1), k, pair(place), pair(Fraction(t) + 20 * FAR)), near)

    def test_by_chance_against_stepping(self):
        source = random.Random(91)
        told = {0: 0, 1: 0, 2: 0, "wide": 0}
        for time in range(500):
            row, walls = chance_row(source, source.randint(1, 5), [2], box(-4, 4))
            speed = Fraction(source.randint(-6, 6), source.choice([1, 2, 3]))
            t = Fraction(source.randint(0, 12), source.choice([1, 2, 3]))
            then = [value_of(one[0]) for one in stepped(row, walls, t, most=10 ** 6)[3]]
            place = source.choice(then + [Fraction(source.randint(-8, 8), 2), Fraction(4), Fraction(-4)])
            below = len([one for one in then if one < place])
            # Numbers for which there are beginnings, most times.
            k = min(max(below + source.choice([-1, 0, 0, 0, 1]), 0), len(row))
            answer = aims(row, walls, pair(speed), k, pair(place), pair(t))
            told[len(answer)] += 1
            told["wide"] += any([first != last for first, last in answer])
            values = [(value_of(first), value_of(last)) for first, last in answer]
            near = Fraction(1, 10 ** 9)
            asked = [Fraction(n, 3) for n in range(-12, 13, 4)]
            for first, last in values:
                asked += [first, last, (first + last) / 2, first - near, last + near]
            for x in asked:
                hit = hits(row, walls, x, speed, k, place, t) if -4 <= x <= 4 else None
                if hit is not None:
                    self.assertIs(any([first <= x <= last for first, last in values]), hit, (row, speed, k, place, t, x))
            for (first, last), (later, end) in zip(values, values[1:]):
                self.assertLess(last, later)
        self.assertTrue(all([many > 15 for many in told.values()]), told)

    def test_great_and_small_fractions(self):
        walls = box(-GREAT, Fraction(GREAT, 7))
        speed = Fraction(GREAT - 1, GREAT)
        self.assertEqual(aims(row_of((0, 0)), walls, pair(speed), 1, pair(Fraction(1, GREAT)), (5, 1)),
                         [stretch(Fraction(1, GREAT) - 5 * speed)])


class Refused(unittest.TestCase):
    def test_not_even(self):
        even = row_of((3, 1), (4, 2))
        for row, walls in [(row_of((3, 1, 1), (4, 2, 2)), BOX), (even, OPEN), (even, low_at(0)), (even, high_at(9)),
                           (even, (wall(0), wall(9, 1))), (even, (wall(0, 1), wall(9)))]:
            for k, place in [(0, 5), (9, 5), (-1, 99), (0, 99)]:
                self.assertRaises(NotEven, aims, row, walls, (1, 1), k, pair(place), NOUGHT)

    def test_no_ball(self):
        for k in [-1, 3, -3, GREAT]:
            for place in [5, 99]:
                self.assertRaises(NoBall, aims, row_of((3, 1), (4, 2)), BOX, (1, 1), k, pair(place), NOUGHT)

    def test_numbers_up_to_how_many_the_row_has(self):
        for k in [0, 1, 2]:
            self.assertEqual(type(aims(row_of((3, 1), (4, 2)), BOX, (1, 1), k, (5, 1), NOUGHT)), list)
        self.assertEqual(aims(row_of((3, 1), (4, 2)), BOX, (1, 1), 2, (5, 1), NOUGHT), [stretch(5)])

    def test_eight_balls_and_one_more(self):
        row = row_of(*[(k + 1, 0) for k in range(8)])
        self.assertEqual(aims(row, BOX, (0, 1), 8, (9, 1), NOUGHT), [stretch(9)])
        self.assertRaises(NoBall, aims, row, BOX, (0, 1), 9, (9, 1), NOUGHT)

    def test_no_place(self):
        for place in [-1, 11, Fraction(-1, GREAT), 10 + Fraction(1, GREAT)]:
            self.assertRaises(NoPlace, aims, row_of((3, 1), (4, 2)), BOX, (1, 1), 2, pair(place), NOUGHT)


class Kinds(unittest.TestCase):
    def test_kinds(self):
        told = aims(row_of((4, 0)), BOX, (1, 1), 0, (4, 1), (2, 1))
        self.assertEqual((type(told), type(told[0])), (list, tuple))

    def test_a_told_list_is_the_askers_own(self):
        row = row_of((4, 0))
        for k, place in [(0, 4), (0, 9)]:
            told = aims(row, BOX, (1, 1), k, pair(place), (2, 1))
            kept = list(told)
            told.append(None)
            self.assertEqual(aims(row, BOX, (1, 1), k, pair(place), (2, 1)), kept)

    def test_arguments_by_name(self):
        told = aims(t=(2, 1), place=(4, 1), k=0, speed=(1, 1), walls=BOX, row=row_of((4, 0)))
        self.assertEqual(told, [stretch(2, 10)])
        names = list(inspect.signature(aims_file.aims).parameters)
        self.assertEqual(names, ["row", "walls", "speed", "k", "place", "t"])


if __name__ == "__main__":
    unittest.main()
