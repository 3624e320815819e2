import inspect
import random
import unittest
from fractions import Fraction

from clackrow import broad as broad_file
from clackrow.broad import broad_gone, broadened, is_broad, thinned
from clackrow.errors import Shut, Together, TooMany
from clackrow.rows import is_row
from clackrow.runs import gone
from tests.things import NOUGHT, OPEN, OTHER_KINDS, box, chance_row, high_at, low_at, pair, row_of, stepped, value_of, wall

GREAT = 10 ** 60
NEAR = Fraction(1, GREAT)


def broad_row(*balls):
    """A broad row of tuples (place, speed, weight, width)."""
    return tuple([(pair(place), pair(speed), weight, pair(width)) for place, speed, weight, width in balls])


def made_broad(row, walls, widths):
    """The broad row and its walls of a thin row, by fractions."""
    balls = []
    for k, (place, speed, weight) in enumerate(row):
        balls.append((value_of(place) + sum(widths[:k]), value_of(speed), weight, widths[k]))
    low, high = walls
    if high is not None:
        high = (pair(value_of(high[0]) + sum(widths)), high[1])
    return broad_row(*balls), (low, high)


def chance_widths(source, many):
    return [source.choice([Fraction(0), Fraction(source.randint(0, 5), source.choice([1, 2, 3])), NEAR,
                           Fraction(GREAT)]) for k in range(many)]


def stands_free(broad, walls):
    """Whether the balls, as they reach, keep clear of one another and of the walls."""
    balls = [(value_of(place), value_of(speed), value_of(width)) for place, speed, weight, width in broad]
    for (x, v, width), (y, w, other) in zip(balls, balls[1:]):
        if x + width > y or (x + width == y and v >= w):
            return False
    low, high = walls
    if low is not None:
        place, speed = value_of(low[0]), value_of(low[1])
        if balls[0][0] < place or (balls[0][0] == place and balls[0][1] < speed):
            return False
    if high is not None:
        place, speed = value_of(high[0]), value_of(high[1])
        end = balls[-1][0] + balls[-1][2]
        if end > place or (end == place and balls[-1][1] > speed):
            return False
    # Balls that fill all room between two walls leave none that is a line.
    return low is None or high is None or value_of(high[0]) - value_of(low[0]) > sum([ball[2] for ball in balls])


class IsBroad(unittest.TestCase):
    def test_one_ball(self):
        for width in [0, 1, Fraction(1, 3), NEAR, GREAT]:
            self.assertIs(is_broad(OPEN, broad_row((2, 3, 5, width))), True, width)
        for width in [-1, -NEAR, -GREAT, Fraction(-1, 2)]:
            self.assertIs(is_broad(OPEN, broad_row((2, 3, 5, width))), False, width)

    def test_widths_of_nought_make_rows(self):
        source = random.Random(1201)
        for k in range(300):
            row, walls = chance_row(source, source.randint(1, 5), [1, 2])
            broad = tuple([ball + (NOUGHT,) for ball in row])
            self.assertIs(is_broad(walls, broad), True)
            self.assertEqual(thinned(broad, walls), (row, walls))
            self.assertEqual(broadened(row, [NOUGHT] * len(row)), broad)

    def test_balls_that_touch(self):
        for v, w, good in [(0, 1, True), (1, 1, False), (1, 0, False), (-1, 0, True), (NEAR, 2 * NEAR, True)]:
            self.assertIs(is_broad(OPEN, broad_row((0, v, 1, 3), (3, w, 2, 1))), good, (v, w))
            self.assertIs(is_broad(OPEN, broad_row((0, v, 1, 0), (0, w, 2, 0))), good, (v, w))

    def test_balls_that_reach_into_one_another(self):
        self.assertIs(is_broad(OPEN, broad_row((0, 0, 1, 3), (3 - NEAR, 1, 2, 1))), False)
        self.assertIs(is_broad(OPEN, broad_row((0, 0, 1, 3 + NEAR), (3, 1, 2, 1))), False)
        self.assertIs(is_broad(OPEN, broad_row((0, 0, 1, 3), (1, 1, 2, 9))), False)
        self.assertIs(is_broad(OPEN, broad_row((0, 0, 1, 1), (2, 1, 2, 5), (4, 9, 1, 1))), False)
        self.assertIs(is_broad(OPEN, broad_row((0, 0, 1, 3), (3 + NEAR, -1, 2, 1))), True)

    def test_a_ball_and_low(self):
        for place, speed, good in [(0, 0, True), (0, 1, True), (0, -1, False), (1, -9, True), (-NEAR, 5, False)]:
            self.assertIs(is_broad(low_at(0), broad_row((place, speed, 1, 7))), good, (place, speed))

    def test_a_ball_and_high(self):
        for width, speed, good in [(10, 0, True), (10, -1, True), (10, 1, False), (9, 5, True), (10 + NEAR, -5, False)]:
            self.assertIs(is_broad(high_at(10), broad_row((0, speed, 1, width))), good, (width, speed))
            two = broad_row((-5, speed - 1, 1, 5), (0, speed, 1, width))
            self.assertIs(is_broad(high_at(10), two), good, (width, speed))

    def test_a_ball_that_goes_with_a_wall(self):
        self.assertIs(is_broad((None, wall(10, 2)), broad_row((7, 2, 1, 3))), True)
        self.assertIs(is_broad((None, wall(10, 2)), broad_row((7, 3, 1, 3))), False)
        self.assertIs(is_broad((wall(7, 2), None), broad_row((7, 2, 1, 3))), True)
        self.assertIs(is_broad((wall(7, 2), None), broad_row((7, 1, 1, 3))), False)

    def test_thinned_walls_that_are_none(self):
        self.assertIs(is_broad(box(0, 10), broad_row((0, 0, 1, 10))), False)
        self.assertIs(is_broad(box(0, 10), broad_row((0, 0, 1, 10 - NEAR))), True)
        self.assertIs(is_broad(box(0, 10), broad_row((0, 0, 1, 4), (4, 1, 1, 6))), False)
        self.assertIs(is_broad(box(0, 10), broad_row((0, 0, 1, 4), (5, 1, 1, 4))), True)
        self.assertIs(is_broad((wall(0), wall(10)), broad_row((0, 0, 1, 11))), False)

    def test_walls_that_are_none(self):
        one = broad_row((2, 3, 5, 1))
        for walls in [box(10, 0), box(2, 2), [None, None], (None,), (None, None, None), ((0, 1), None), None, "", 7, (),
                      (wall(0), 5), ((NOUGHT, (2, 4)), None), ([NOUGHT, NOUGHT], None)]:
            self.assertIs(is_broad(walls, one), False, walls)
        for thing in OTHER_KINDS:
            self.assertIs(is_broad(thing, one), False, thing)

    def test_parts_and_kinds(self):
        good = (NOUGHT, (1, 1), 3, (1, 2))
        self.assertIs(is_broad(OPEN, (good,)), True)
        for ball in [good[:3], good + (NOUGHT,), good[:2], (), list(good), good[:3] + ((2, 4),), good[:3] + ((1, 0),),
                     good[:3] + (1,), good[:3] + (None,), good[:3] + ("1/2",), good[:3] + ([1, 2],),
                     good[:3] + ((1, -2),), good[:3] + ((True, 1),), good[:3] + ((0, 2),), good[:3] + ((-1, 2),),
                     (NOUGHT, (1, 1), 0, (1, 2)), (NOUGHT, (1, 1), 1001, (1, 2)), (NOUGHT, (1, 1), True, (1, 2)),
                     ((2, 2), (1, 1), 3, (1, 2)), (NOUGHT, 1, 3, (1, 2)), (NOUGHT, (1, 1), (3, 1), (1, 2)), None, 7, ""]:
            self.assertIs(is_broad(OPEN, (ball,)), False, ball)
            self.assertIs(is_broad(OPEN, (broad_row((-9, 0, 1, 1))[0], ball)), False, ball)
        self.assertIs(is_broad(OPEN, [good]), False)
        self.assertIs(is_broad(OPEN, good), False)
        for thing in OTHER_KINDS:
            self.assertIs(is_broad(OPEN, thing), False, thing)
            self.assertIs(is_broad(OPEN, (thing,)), False, thing)
            self.assertIs(is_broad(OPEN, (good[:3] + (thing,),)), thing in [NOUGHT, (1, 2)], thing)

    def test_how_many_balls(self):
        balls = [(3 * k, 0, 1, 2) for k in range(60)]
        for many in range(1, 9):
            self.assertIs(is_broad(OPEN, broad_row(*balls[:many])), True, many)
        for many in [0, 9, 10, 60]:
            self.assertIs(is_broad(OPEN, broad_row(*balls[:many])), False, many)

    def test_by_chance(self):
        source = random.Random(1202)
        kinds = [0, 0]
        for k in range(3000):
            many = source.randint(1, 3)
            places = sorted([source.randint(-3, 6) for k in range(many)])
            broad = broad_row(*[(place, source.randint(-1, 1), 1, source.choice([0, 0, 1, 1, 2, 3])) for place in places])
            walls = (source.choice([None, wall(-3, source.randint(-1, 1)), wall(places[0])]),
                     source.choice([None, wall(7, source.randint(-1, 1)), wall(places[-1] + 1)]))
            good = stands_free(broad, walls)
            self.assertIs(is_broad(walls, broad), good, (walls, broad))
            kinds[good] += 1
        self.assertGreater(min(kinds), 500)


class ThereAndBack(unittest.TestCase):
    def test_told_cases(self):
        broad = broad_row((1, 2, 3, 4), (6, -1, 5, Fraction(1, 2)), (7, 0, 1, 2))
        thin = row_of((1, 2, 3), (2, -1, 5), (Fraction(5, 2), 0, 1))
        self.assertEqual(thinned(broad, box(0, 10)), (thin, box(0, Fraction(7, 2))))
        self.assertEqual(thinned(broad, OPEN), (thin, OPEN))
        self.assertEqual(thinned(broad, low_at(0, 5)), (thin, low_at(0, 5)))
        self.assertEqual(thinned(broad, high_at(9, 5)), (thin, high_at(Fraction(5, 2), 5)))
        self.assertEqual(broadened(thin, [(4, 1), (1, 2), (2, 1)]), broad)
        self.assertEqual(broadened(thin, ((4, 1), (1, 2), (2, 1))), broad)

    def test_other_widths(self):
        thin = row_of((1, 2, 3), (2, -1, 5))
        self.assertEqual(broadened(thin, [(7, 1), NOUGHT]), broad_row((1, 2, 3, 7), (9, -1, 5, 0)))
        self.assertEqual(broadened(thin, [NOUGHT, (7, 1)]), broad_row((1, 2, 3, 0), (2, -1, 5, 7)))

    def test_by_chance(self):
        source = random.Random(1203)
        for k in range(400):
            row, walls = chance_row(source, source.randint(1, 5), [1, 2, 1000])
            widths = chance_widths(source, len(row))
            broad, wide_walls = made_broad(row, walls, widths)
            self.assertIs(is_broad(wide_walls, broad), True)
            self.assertEqual(thinned(broad, wide_walls), (row, walls))
            self.assertEqual(broadened(row, [pair(width) for width in widths]), broad)
            self.assertTrue(is_row(*reversed(thinned(broad, wide_walls))))


class Gone(unittest.TestCase):
    def test_two_that_touch_and_part(self):
        broad = broad_row((0, 1, 1, 2), (5, -1, 1, 3))
        self.assertEqual(broad_gone(broad, OPEN, NOUGHT), (broad, OPEN))
        self.assertEqual(broad_gone(broad, OPEN, (1, 1)), (broad_row((1, 1, 1, 2), (4, -1, 1, 3)), OPEN))
        touching = Fraction(3, 2)
        self.assertEqual(broad_gone(broad, OPEN, pair(touching)),
                         (broad_row((touching, -1, 1, 2), (touching + 2, 1, 1, 3)), OPEN))
        self.assertEqual(broad_gone(broad, OPEN, (2, 1)), (broad_row((1, -1, 1, 2), (4, 1, 1, 3)), OPEN))

    def test_one_between_walls(self):
        broad = broad_row((0, 1, 1, 4))
        for t, place, speed in [(0, 0, 1), (5, 5, 1), (6, 6, -1), (7, 5, -1), (12, 0, 1), (13, 1, 1)]:
            self.assertEqual(broad_gone(broad, box(0, 10), pair(t)), (broad_row((place, speed, 1, 4)), box(0, 10)))

    def test_the_walls_handed_in_go_on(self):
        broad = broad_row((2, 0, 1, 3))
        walls = (wall(0, Fraction(1, 2)), wall(10, -1))
        then, walls_then = broad_gone(broad, walls, (2, 1))
        self.assertEqual((then, walls_then), (broad, (wall(1, Fraction(1, 2)), wall(8, -1))))
        # At 4 low comes to the ball and throws it on, at 9/2 the ball's end comes to high.
        self.assertEqual(broad_gone(broad, walls, (4, 1)),
                         (broad_row((2, 1, 1, 3)), (wall(2, Fraction(1, 2)), wall(6, -1))))
        self.assertEqual(broad_gone(broad, walls, (9, 2)), (broad_row((Fraction(5, 2), -3, 1, 3)),
                         (wall(Fraction(9, 4), Fraction(1, 2)), wall(Fraction(11, 2), -1))))

    def test_refused_as_the_thinned_row_is(self):
        # The room of 7 that is left is shut by a nearing of 2.
        broad = broad_row((3, 0, 1, 3))
        walls = (wall(0, 1), wall(10, -1))
        with self.assertRaises(Shut) as refusal:
            broad_gone(broad, walls, (7, 2))
        self.assertEqual(refusal.exception.moment, (7, 2))
        self.assertRaises(Shut, broad_gone, broad, walls, (9, 1))
        # Three of unlike weights touch all at once.
        three = broad_row((-3, 1, 1, 1), (0, 0, 2, 4), (6, -1, 1, 1))
        with self.assertRaises(Together) as refusal:
            broad_gone(three, OPEN, (5, 1))
        self.assertEqual(refusal.exception.moment, (2, 1))
        self.assertEqual(broad_gone(three, OPEN, (1, 1))[0], broad_row((-2, 1, 1, 1), (0, 0, 2, 4), (5, -1, 1, 1)))
        fast = broad_row((0, 1, 1, 9))
        self.assertEqual(broad_gone(fast, box(0, 10), (400, 1)), (fast, box(0, 10)))
        self.assertRaises(TooMany, broad_gone, fast, box(0, 10), (401, 1))

    def test_by_chance_against_the_thinned_row_stepped(self):
        source = random.Random(1204)
        kinds = {"gone": 0, "shut": 0, "together": 0}
        for k in range(500):
            row, walls = chance_row(source, source.randint(1, 4), source.choice([[1], [1, 2]]))
            widths = chance_widths(source, len(row))
            broad, wide_walls = made_broad(row, walls, widths)
            t = Fraction(source.randint(0, 12), source.choice([1, 2, 3]))
            told = stepped(row, walls, t)
            kinds[told[0]] += 1
            if told[0] == "gone":
                then, walls_then = broad_gone(broad, wide_walls, pair(t))
                self.assertEqual((then, walls_then), made_broad(told[3], told[4], widths))
                self.assertTrue(is_broad(walls_then, then))
                self.assertEqual(thinned(then, walls_then), gone(row, walls, pair(t)))
                for one, other in zip(wide_walls, walls_then):
                    self.assertEqual(other, one and (pair(value_of(one[0]) + t * value_of(one[1])), one[1]))
            else:
                with self.assertRaises(Shut if told[0] == "shut" else Together) as refusal:
                    broad_gone(broad, wide_walls, pair(t))
                self.assertEqual(refusal.exception.moment, told[1])
        self.assertGreater(min(kinds.values()), 10, kinds)


class Kinds(unittest.TestCase):
    def test_kinds(self):
        broad = broad_row((0, 1, 1, 2), (5, -1, 1, 3))
        row, walls = thinned(broad, OPEN)
        self.assertEqual((type(row), type(walls), type(row[0])), (tuple, tuple, tuple))
        self.assertEqual(type(broadened(row, [(1, 1), (1, 1)])), tuple)
        self.assertEqual([type(part) for part in broad_gone(broad, OPEN, (9, 1))], [tuple, tuple])

    def test_nothing_handed_in_is_changed(self):
        widths = [(1, 1), (2, 1)]
        broadened(row_of((0, 0), (1, 0)), widths)
        self.assertEqual(widths, [(1, 1), (2, 1)])

    def test_arguments_by_name(self):
        broad = broad_row((0, 1, 1, 2))
        self.assertIs(is_broad(thing=broad, walls=OPEN), True)
        self.assertEqual(thinned(walls=OPEN, broad=broad), (row_of((0, 1)), OPEN))
        self.assertEqual(broadened(widths=[(2, 1)], row=row_of((0, 1))), broad)
        self.assertEqual(broad_gone(t=NOUGHT, walls=OPEN, broad=broad), (broad, OPEN))
        for name, parameters in [("is_broad", ["walls", "thing"]), ("thinned", ["broad", "walls"]),
                                 ("broadened", ["row", "widths"]), ("broad_gone", ["broad", "walls", "t"])]:
            self.assertEqual(list(inspect.signature(getattr(broad_file, name)).parameters), parameters, name)


if __name__ == "__main__":
    unittest.main()
