import copy
import inspect
import random
import unittest
from fractions import Fraction

from clackrow import rows
from clackrow.rows import energy_of, framed, is_even, is_row, is_still, middle_of, push_of, walls_good
from tests.things import NO_WHOLES, NOUGHT, OTHER_KINDS, ball, pair, value_of, wall

OPEN = (None, None)
BOX = (wall(0), wall(10))
GREAT = 10 ** 60
# No ratios, in the place of one.
NO_RATIOS = [thing for thing in OTHER_KINDS if thing not in [(0, 1), (1, 2)]] + [
    (2, 4), (0, 2), (1, 0), (1, -2), [1, 2], (1, 2, 3), (True, 1), (1, True), (False, 1), ("1", 2)]


def steps(many, weight=1):
    """So many balls, at 1, 2, 3 .., each at rest."""
    return tuple([ball(k + 1, 0, weight) for k in range(many)])


def random_row(source, many, span):
    """A row of so many balls of whatever weights, some at one place, between walls that go."""
    spots = set()
    while len(spots) < many:
        spots.add((Fraction(source.randint(-span, span), source.randint(1, span)),
                   Fraction(source.randint(-span, span), source.randint(1, span))))
    spots = sorted(spots)
    if many > 1 and spots[0][1] != spots[1][1]:
        spots[:2] = sorted([(spots[0][0], spots[0][1]), (spots[0][0], spots[1][1])])
    row = tuple([ball(place, speed, source.randint(1, 1000)) for place, speed in spots])
    low = source.choice([None, wall(spots[0][0] - 1, source.randint(-5, 5)), wall(spots[0][0], spots[0][1] - 1)])
    high = source.choice([None, wall(spots[-1][0] + 1, source.randint(-5, 5)), wall(spots[-1][0] + 1, spots[-1][1])])
    return row, (low, high)


def some_rows():
    source = random.Random(11)
    return [random_row(source, many, span) for many in range(1, 9) for span in (3, 20, GREAT) for time in range(4)]


class Walls(unittest.TestCase):
    def test_none_one_and_two(self):
        for walls in [OPEN, (wall(0), None), (None, wall(0)), BOX, (wall(-3, 5), wall("1/2", -7)),
                      (wall(-GREAT, GREAT), wall(GREAT, -GREAT))]:
            self.assertIs(walls_good(walls), True, walls)

    def test_places_of_two_walls_rise(self):
        for low, high in [(0, 0), (1, 0), ("1/2", "1/2"), ("1/2", "1/3"), (GREAT, GREAT - 1)]:
            for speeds in [(0, 0), (-1, 1), (1, -1)]:
                walls = (wall(low, speeds[0]), wall(high, speeds[1]))
                self.assertIs(walls_good(walls), False, walls)
        self.assertIs(walls_good((wall("1/3"), wall("1/2"))), True)

    def test_the_wrong_way_about(self):
        self.assertIs(walls_good((BOX[1], BOX[0])), False)

    def test_lists_in_the_place_of_tuples(self):
        for walls in [[None, None], list(BOX), (list(BOX[0]), BOX[1]), (BOX[0], list(BOX[1])),
                      (([0, 1], (0, 1)), None), (None, ((0, 1), [0, 1])), ([], None), (None, [])]:
            self.assertIs(walls_good(walls), False, walls)

    def test_other_numbers_of_parts(self):
        for walls in [(), (None,), (None, None, None), BOX + (None,), BOX[:1], ((), None), (((0, 1),), None),
                      (((0, 1), (0, 1), (0, 1)), None), (None, ((0, 1), (0, 1), 1)), BOX[0]]:
            self.assertIs(walls_good(walls), False, walls)

    def test_no_ratio_in_each_place(self):
        for part in NO_RATIOS:
            for walls in [((part, (0, 1)), None), (((0, 1), part), None), (None, (part, (0, 1))),
                          (None, ((0, 1), part)), (BOX[0], ((10, 1), part)), ((part, (0, 1)), BOX[1])]:
                self.assertIs(walls_good(walls), False, walls)

    def test_other_kinds(self):
        for thing in OTHER_KINDS:
            self.assertIs(walls_good(thing), False, thing)
            if thing is not None:
                self.assertIs(walls_good((thing, None)), False, thing)
                self.assertIs(walls_good((None, thing)), False, thing)


class Rows(unittest.TestCase):
    def test_one_to_eight_balls(self):
        for many in range(12):
            self.assertIs(is_row(OPEN, steps(many)), 1 <= many <= 8, many)
            self.assertIs(is_row((wall(0), wall(20)), steps(many)), 1 <= many <= 8, many)

    def test_places_do_not_fall(self):
        self.assertIs(is_row(OPEN, (ball(1, 0, 1), ball(2, -5, 1))), True)
        self.assertIs(is_row(OPEN, (ball("1/3", 9, 1), ball("1/2", 0, 1))), True)
        self.assertIs(is_row(OPEN, (ball(2, -5, 1), ball(1, 0, 1))), False)
        self.assertIs(is_row(OPEN, (ball("1/2", 0, 1), ball("1/3", 9, 1))), False)
        self.assertIs(is_row(OPEN, steps(6) + (ball("11/2", 9, 1),)), False)

    def test_neighbours_at_one_place(self):
        for many in [2, 3, 8]:
            rising = [ball(1, k - 4, 2) for k in range(many)]
            self.assertIs(is_row(OPEN, tuple(rising)), True)
            self.assertIs(is_row(OPEN, tuple(rising[::-1])), False)
            self.assertIs(is_row(OPEN, tuple([ball(1, 3, 2)] * many)), False)
            self.assertIs(is_row(OPEN, tuple(rising[:-1] + [rising[-2]])), False)

    def test_speeds_of_neighbours_at_two_places_are_free(self):
        for speeds in [(1, 2), (2, 1), (1, 1), (-GREAT, GREAT), (GREAT, -GREAT)]:
            self.assertIs(is_row(OPEN, (ball(0, speeds[0], 1), ball(1, speeds[1], 1))), True)

    def test_weights(self):
        for weight in [1, 2, 999, 1000]:
            self.assertIs(is_row(OPEN, (ball(0, 0, weight),)), True, weight)
        for weight in [0, -1, 1001, GREAT, (1, 1)] + NO_WHOLES:
            self.assertIs(is_row(OPEN, (ball(0, 0, weight),)), False, weight)
            self.assertIs(is_row(OPEN, steps(3) + (ball(9, 0, weight),)), False, weight)

    def test_lists_in_the_place_of_tuples(self):
        one = ball(0, 0, 1)
        for thing in [[one], (list(one),), (([0, 1], (0, 1), 1),), (((0, 1), [0, 1], 1),), one, [list(one)]]:
            self.assertIs(is_row(OPEN, thing), False, thing)

    def test_other_numbers_of_parts_of_a_ball(self):
        for thing in [(), ((0, 1),), ((0, 1), (0, 1)), ((0, 1), (0, 1), 1, 1), ((0, 1), (0, 1), 1, (0, 1))]:
            self.assertIs(is_row(OPEN, (thing,)), False, thing)

    def test_no_ratio_in_each_place(self):
        for part in NO_RATIOS:
            for thing in [(part, (0, 1), 1), ((0, 1), part, 1)]:
                self.assertIs(is_row(OPEN, (thing,)), False, thing)
                self.assertIs(is_row(OPEN, (ball(-1, 0, 1), thing)), False, thing)

    def test_other_kinds(self):
        for thing in OTHER_KINDS:
            self.assertIs(is_row(OPEN, thing), False, thing)
            self.assertIs(is_row(OPEN, (thing,)), False, thing)
            self.assertIs(is_row(BOX, steps(1) + (thing,)), False, thing)

    def test_what_are_no_walls(self):
        for thing in OTHER_KINDS + [(BOX[1], BOX[0]), (wall(1), wall(1)), list(BOX), (list(BOX[0]), None)]:
            self.assertIs(is_row(thing, steps(1)), False, thing)
            self.assertIs(is_row(thing, thing), False, thing)

    def test_what_is_asked_of_stays_as_it_was(self):
        walls, thing = [None, [1, [2]]], [[ball(0, 0, 1)], [None]]
        kept = copy.deepcopy((walls, thing))
        for asked in [lambda: is_row(walls, thing), lambda: is_row(OPEN, thing), lambda: walls_good(walls)]:
            self.assertIs(asked(), False)
        self.assertEqual((walls, thing), kept)

    def test_random_ones(self):
        for row, walls in some_rows():
            self.assertIs(walls_good(walls), True)
            self.assertIs(is_row(walls, row), True)


class Between(unittest.TestCase):
    def test_inside(self):
        for speed in [-5, 0, 5]:
            for place in ["1/9", 5, "89/9"]:
                self.assertIs(is_row(BOX, (ball(place, speed, 1),)), True)

    def test_outside(self):
        for place in [-1, "-1/9", "91/9", 11]:
            for speed in [-5, 0, 5]:
                self.assertIs(is_row(BOX, (ball(place, speed, 1),)), False)
                self.assertIs(is_row(OPEN, (ball(place, speed, 1),)), True)
        self.assertIs(is_row((wall(0), None), (ball(-1, 5, 1), ball(1, 0, 1))), False)
        self.assertIs(is_row((None, wall(0)), (ball(-1, 5, 1), ball(1, -5, 1))), False)

    def test_a_wall_bounds_its_own_side_alone(self):
        self.assertIs(is_row((wall(0), None), (ball(99, 5, 1),)), True)
        self.assertIs(is_row((None, wall(0)), (ball(-99, -5, 1),)), True)

    def test_just_at_low(self):
        for own in [0, 2, -3, "1/2"]:
            walls = (wall(0, own), wall(10, 4))
            for more, good in [(-1, False), ("-1/9", False), (0, True), ("1/9", True), (1, True)]:
                first = ball(0, Fraction(own) + Fraction(more), 1)
                self.assertIs(is_row(walls, (first,)), good, (own, more))
                self.assertIs(is_row((walls[0], None), (first, ball(1, -9, 1))), good, (own, more))

    def test_just_at_high(self):
        for own in [0, 2, -3, "1/2"]:
            walls = (wall(-10, 4), wall(0, own))
            for more, good in [(-1, True), ("-1/9", True), (0, True), ("1/9", False), (1, False)]:
                last = ball(0, Fraction(own) + Fraction(more), 1)
                self.assertIs(is_row(walls, (last,)), good, (own, more))
                self.assertIs(is_row((None, walls[1]), (ball(-1, 9, 1), last)), good, (own, more))

    def test_several_at_a_wall(self):
        walls = (wall(0, 1), wall(5, 1))
        self.assertIs(is_row(walls, (ball(0, 1, 1), ball(0, 2, 1), ball(0, 3, 1))), True)
        self.assertIs(is_row(walls, (ball(0, 0, 1), ball(0, 2, 1), ball(0, 3, 1))), False)
        self.assertIs(is_row(walls, (ball(0, 1, 1), ball(0, 1, 1))), False)
        self.assertIs(is_row(walls, (ball(5, -1, 1), ball(5, 0, 1), ball(5, 1, 1))), True)
        self.assertIs(is_row(walls, (ball(5, -1, 1), ball(5, 0, 1), ball(5, 2, 1))), False)

    def test_inner_balls_are_not_asked_for_their_speed_to_a_wall(self):
        self.assertIs(is_row(BOX, (ball(0, 0, 1), ball(5, -9, 1), ball(6, 9, 1), ball(10, 0, 1))), True)


class EvenAndStill(unittest.TestCase):
    def test_even(self):
        for many in [1, 2, 8]:
            for weight in [1, 7, 1000]:
                self.assertIs(is_even(steps(many, weight)), True)

    def test_not_even(self):
        for many in [2, 3, 8]:
            for place in range(many):
                row = list(steps(many, 7))
                row[place] = row[place][:2] + (8,)
                self.assertIs(is_even(tuple(row)), False)

    def test_even_goes_by_the_weights_alone(self):
        self.assertIs(is_even((ball(0, 3, 5), ball(1, -3, 5), ball(4, "1/2", 5))), True)
        self.assertIs(is_even((ball(0, 0, 1), ball(1, 0, 2))), False)

    def test_still(self):
        for walls in [OPEN, BOX, (wall(3), None), (None, wall(3))]:
            self.assertIs(is_still(walls), True, walls)

    def test_not_still(self):
        for speed in [1, -1, "1/9", Fraction(1, GREAT)]:
            for walls in [(wall(3, speed), None), (None, wall(3, speed)), (wall(3, speed), wall(4)),
                          (wall(3), wall(4, speed)), (wall(3, speed), wall(4, speed))]:
                self.assertIs(is_still(walls), False, walls)

    def test_other_kinds_are_neither(self):
        for thing in OTHER_KINDS:
            self.assertIs(is_even(thing), False, thing)
            self.assertIs(is_even((thing,)), False, thing)
            self.assertIs(is_still(thing), False, thing)
            if thing is not None:
                self.assertIs(is_still((thing, None)), False, thing)
        for weight in NO_WHOLES:
            self.assertIs(is_even(((NOUGHT, NOUGHT, weight),)), False, weight)


class Sums(unittest.TestCase):
    def test_plainly(self):
        row = (ball(1, 2, 3), ball(4, "-1/2", 5))
        self.assertEqual(push_of(row), (7, 2))
        self.assertEqual(energy_of(row), (53, 4))
        self.assertEqual(middle_of(row), (23, 8))

    def test_one_ball(self):
        row = (ball("-7/3", "5/2", 1000),)
        self.assertEqual(push_of(row), (2500, 1))
        self.assertEqual(energy_of(row), (6250, 1))
        self.assertEqual(middle_of(row), (-7, 3))

    def test_at_rest(self):
        self.assertEqual(push_of(steps(8, 9)), (0, 1))
        self.assertEqual(energy_of(steps(8, 9)), (0, 1))
        self.assertEqual(middle_of(steps(8, 9)), (9, 2))

    def test_whatever_row(self):
        for row, walls in some_rows():
            values = [(value_of(place), value_of(speed), weight) for place, speed, weight in row]
            weights = sum([weight for place, speed, weight in values])
            self.assertEqual(push_of(row), pair(sum([weight * speed for place, speed, weight in values])))
            self.assertEqual(energy_of(row), pair(sum([weight * speed ** 2 for place, speed, weight in values])))
            self.assertEqual(middle_of(row), pair(sum([weight * place for place, speed, weight in values]) / weights))


class Framed(unittest.TestCase):
    def test_plainly(self):
        row = (ball(1, 2, 3), ball(4, "-1/2", 5))
        walls = (wall(0, 1), wall(9, -1))
        told = framed(row, walls, (1, 2))
        self.assertEqual(told, ((ball(1, "5/2", 3), ball(4, 0, 5)), (wall(0, "3/2"), wall(9, "-1/2"))))
        self.assertEqual(row, (ball(1, 2, 3), ball(4, "-1/2", 5)))

    def test_walls_that_are_not_there_stay_so(self):
        row = steps(1)
        self.assertEqual(framed(row, OPEN, (3, 1)), ((ball(1, 3, 1),), OPEN))
        self.assertEqual(framed(row, (wall(0), None), (3, 1))[1], (wall(0, 3), None))
        self.assertEqual(framed(row, (None, wall(2)), (-3, 1))[1], (None, wall(2, -3)))

    def test_by_nought(self):
        for row, walls in some_rows():
            self.assertEqual(framed(row, walls, (0, 1)), (row, walls))

    def test_there_and_back_and_a_row_between_walls(self):
        for row, walls in some_rows():
            for speed in [(5, 1), (-7, 3), (GREAT, 7)]:
                told = framed(row, walls, speed)
                self.assertIs(type(told), tuple)
                self.assertIs(walls_good(told[1]), True)
                self.assertIs(is_row(told[1], told[0]), True)
                self.assertEqual(framed(told[0], told[1], (-speed[0], speed[1])), (row, walls))

    def test_push_and_middle(self):
        for row, walls in some_rows():
            weights = sum([one[2] for one in row])
            told = framed(row, walls, (-7, 3))[0]
            self.assertEqual(value_of(push_of(told)), value_of(push_of(row)) - Fraction(7 * weights, 3))
            self.assertEqual(middle_of(told), middle_of(row))

    def test_a_framed_row_at_its_wall_by_one_speed(self):
        row, walls = (ball(0, 0, 1), ball(10, 0, 1)), BOX
        told = framed(row, walls, (9, 4))
        self.assertIs(is_row(told[1], told[0]), True)
        self.assertIs(is_still(told[1]), False)


class ByName(unittest.TestCase):
    def test_arguments_by_name(self):
        row = steps(2)
        self.assertIs(walls_good(thing=BOX), True)
        self.assertIs(is_row(thing=row, walls=BOX), True)
        self.assertIs(is_even(row=row), True)
        self.assertIs(is_still(walls=BOX), True)
        self.assertEqual(push_of(row=row), (0, 1))
        self.assertEqual(energy_of(row=row), (0, 1))
        self.assertEqual(middle_of(row=row), (3, 2))
        self.assertEqual(framed(speed=(0, 1), walls=BOX, row=row), (row, BOX))

    def test_names_and_order(self):
        told = {
            "walls_good": ["thing"], "is_row": ["walls", "thing"], "is_even": ["row"], "is_still": ["walls"],
            "push_of": ["row"], "energy_of": ["row"], "middle_of": ["row"], "framed": ["row", "walls", "speed"],
        }
        for name, parameters in told.items():
            self.assertEqual(list(inspect.signature(getattr(rows, name)).parameters), parameters, name)


if __name__ == "__main__":
    unittest.main()
