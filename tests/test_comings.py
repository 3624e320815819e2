import inspect
import random
import unittest
from fractions import Fraction

from clackrow import comings
from clackrow.comings import behind, next_coming
from clackrow.errors import Shut, Together
from clackrow.rows import energy_of, is_row, push_of
from tests.things import OPEN, Stepper, ball, box, chance_row, high_at, low_at, pair, row_of, wall

GREAT = 10 ** 60
UNLIKE = [1, 2, 3, 1000]


def rows_by_chance(seed, times):
    """Rows of 1 to 8 balls, of like and unlike weights, between no wall, one, two, standing and going."""
    source = random.Random(seed)
    for many in range(1, 9):
        for weights in [[1], [7], [1, 2], UNLIKE]:
            for bottoms in [(1,), (1, 2, 3), (1, 7, 11, 13)]:
                for time in range(times):
                    yield chance_row(source, many, weights, bottoms=bottoms)


def stepped_once(row, walls):
    """By the stepper: None, or the moment, the groups and row and walls behind, or the class of a refusal."""
    one = Stepper(row, walls)
    wait = one.wait()
    if wait is None:
        return None
    if one.shut() == wait:
        return (pair(wait), Shut, Shut)
    one.go(wait)
    groups = one.groups()
    good = all([one.rebound(group) for group in groups])
    return (pair(wait), [group[:3] for group in groups], one.state() if good else Together)


class NextComing(unittest.TestCase):
    def assert_refused(self, refusal, moment, deed, row, walls):
        with self.assertRaises(refusal) as caught:
            deed(row, walls)
        self.assertEqual(caught.exception.moment, pair(moment))

    def test_nothing_comes(self):
        for row, walls in [
                (row_of((0, 5)), OPEN),
                (row_of((0, 5)), low_at(-1)), (row_of((0, -5)), high_at(1)),
                (row_of((0, 0)), box(-1, 1)), (row_of((0, 0)), box(0, 1)), (row_of((1, 0)), box(0, 1)),
                (row_of((0, 2)), low_at(0, 2)), (row_of((0, 2)), high_at(0, 2)),
                (row_of((0, 2)), low_at(-1, 2)), (row_of((0, 2)), (wall(-1, 1), wall(1, 3))),
                (row_of((0, -1, 3), (0, 1, 5)), OPEN), (row_of((0, 1, 3), (1, 1, 5)), OPEN),
                (row_of(*[(k, k, k + 1) for k in range(8)]), OPEN),
                (row_of(*[(0, k) for k in range(8)]), low_at(0)),
                (row_of(*[(k, 0) for k in range(8)]), box(0, 7)),
                (row_of((0, Fraction(1, GREAT)), (1, Fraction(1, GREAT - 1))), OPEN)]:
            self.assertIs(next_coming(row, walls), None, row)
            self.assertIs(behind(row, walls), None, row)

    def test_two_balls(self):
        row = row_of((0, 3, 2), (5, 1, 4))
        self.assertEqual(next_coming(row, OPEN), ((5, 2), [(0, 1, "")]))
        # 3 - 2 * 4 * 2 / 6 and 1 + 2 * 2 * 2 / 6
        self.assertEqual(behind(row, OPEN), ((5, 2), row_of(("15/2", "1/3", 2), ("15/2", "7/3", 4)), OPEN))

    def test_two_balls_of_one_weight_exchange_speeds(self):
        row = row_of((0, 3, 9), (5, -1, 9))
        self.assertEqual(behind(row, OPEN), ((5, 4), row_of(("15/4", -1, 9), ("15/4", 3, 9)), OPEN))

    def test_balls_that_touch_have_not_come(self):
        row = row_of((0, -1), (0, 1), (6, 0))
        self.assertEqual(next_coming(row, OPEN), ((6, 1), [(1, 2, "")]))
        self.assertEqual(next_coming(row, low_at(-1)), ((1, 1), [(0, 0, "low")]))

    def test_one_ball_at_a_wall_that_stands(self):
        self.assertEqual(next_coming(row_of((1, -2)), low_at(0)), ((1, 2), [(0, 0, "low")]))
        self.assertEqual(behind(row_of((1, -2, 8)), low_at(0)), ((1, 2), row_of((0, 2, 8)), low_at(0)))
        self.assertEqual(next_coming(row_of((1, 2)), high_at(4)), ((3, 2), [(0, 0, "high")]))
        self.assertEqual(behind(row_of((1, 2, 8)), high_at(4)), ((3, 2), row_of((4, -2, 8)), high_at(4)))

    def test_one_ball_at_a_wall_that_goes(self):
        self.assertEqual(behind(row_of((5, 1)), low_at(0, 2)), ((5, 1), row_of((10, 3)), low_at(10, 2)))
        self.assertEqual(behind(row_of((5, -3)), low_at(0, -2)), ((5, 1), row_of((-10, -1)), low_at(-10, -2)))
        self.assertEqual(behind(row_of((5, 0)), high_at(6, -2)), ((1, 2), row_of((5, -4)), high_at(5, -2)))
        self.assertEqual(behind(row_of((5, 3)), high_at(6, 2)), ((1, 1), row_of((8, 1)), high_at(8, 2)))
        self.assertIs(next_coming(row_of((5, 2)), low_at(0, 2)), None)
        self.assertIs(next_coming(row_of((5, 3)), low_at(0, 2)), None)

    def test_a_ball_that_leaves_a_wall_has_not_come(self):
        self.assertEqual(next_coming(row_of((0, 2)), box(0, 4)), ((2, 1), [(0, 0, "high")]))
        self.assertEqual(next_coming(row_of((4, -2)), box(0, 4)), ((2, 1), [(0, 0, "low")]))

    def test_two_groups_at_one_moment(self):
        row = row_of((0, 1, 1), (2, -1, 2), (5, 2, 3), (7, 0, 4))
        self.assertEqual(next_coming(row, OPEN), ((1, 1), [(0, 1, ""), (2, 3, "")]))
        self.assertEqual(behind(row, OPEN)[1], row_of(
            (1, "-5/3", 1), (1, "1/3", 2), (7, "-2/7", 3), (7, "12/7", 4)))
        row = row_of((1, -1, 1), (2, 1, 2), (4, -1, 3), (8, 2, 4))
        told = next_coming(row, box(0, 10))
        self.assertEqual(told, ((1, 1), [(0, 0, "low"), (1, 2, ""), (3, 3, "high")]))
        self.assertEqual(behind(row, box(0, 10)), ((1, 1), row_of(
            (0, 1, 1), (3, "-7/5", 2), (3, "3/5", 3), (10, -2, 4)), box(0, 10)))

    def test_only_the_soonest_is_told(self):
        row = row_of((0, 1), (2, -1), (5, 2), (8, 0))
        self.assertEqual(next_coming(row, OPEN), ((1, 1), [(0, 1, "")]))
        self.assertEqual(behind(row, OPEN)[1], row_of((1, -1), (1, 1), (7, 2), (8, 0)))
        self.assertEqual(next_coming(row, high_at(9, -8)), ((1, 8), [(3, 3, "high")]))

    def test_three_and_more_of_one_weight(self):
        row = row_of((0, 2, 5), (1, 1, 5), (2, 0, 5))
        self.assertEqual(next_coming(row, OPEN), ((1, 1), [(0, 2, "")]))
        self.assertEqual(behind(row, OPEN), ((1, 1), row_of((2, 0, 5), (2, 1, 5), (2, 2, 5)), OPEN))
        row = row_of(*[(k, 3 - k) for k in range(8)])
        self.assertEqual(next_coming(row, OPEN), ((1, 1), [(0, 7, "")]))
        self.assertEqual(behind(row, OPEN)[1], row_of(*[(3, k - 4) for k in range(8)]))

    def test_three_and_more_of_unlike_weights(self):
        for weights in [(1, 1, 2), (1, 2, 1), (2, 1, 1), (1, 2, 3)]:
            row = row_of(*[(k, 2 - k, weight) for k, weight in enumerate(weights)])
            self.assertEqual(next_coming(row, OPEN), ((1, 1), [(0, 2, "")]))
            self.assert_refused(Together, 1, behind, row, OPEN)

    def test_a_good_group_beside_one_that_is_refused(self):
        row = row_of((0, 2, 1), (1, 1, 2), (2, 0, 3), (5, 1), (7, -1))
        self.assertEqual(next_coming(row, OPEN), ((1, 1), [(0, 2, ""), (3, 4, "")]))
        self.assert_refused(Together, 1, behind, row, OPEN)
        row = row_of((-7, 1), (-5, -1), (0, 2, 1), (1, 1, 2), (2, 0, 3))
        self.assert_refused(Together, 1, behind, row, OPEN)

    def test_several_at_a_wall(self):
        row = row_of((1, -1, 4), (2, -2, 4), (3, -3, 4), (9, 0, 1))
        self.assertEqual(next_coming(row, low_at(0)), ((1, 1), [(0, 2, "low")]))
        self.assertEqual(behind(row, low_at(0)), ((1, 1), row_of((0, 1, 4), (0, 2, 4), (0, 3, 4), (9, 0, 1)),
                                                  low_at(0)))
        row = row_of((0, 0, 3), (4, 3), (5, 2), (6, 1))
        self.assertEqual(behind(row, high_at(6, 1)), (
            (1, 1), row_of((0, 0, 3), (7, -1), (7, 0), (7, 1)), high_at(7, 1)))
        self.assertEqual(next_coming(row, high_at(6, 1)), ((1, 1), [(1, 3, "high")]))

    def test_several_of_unlike_weights_at_a_wall(self):
        row = row_of((1, -1, 4), (2, -2, 5))
        self.assertEqual(next_coming(row, low_at(0)), ((1, 1), [(0, 1, "low")]))
        self.assert_refused(Together, 1, behind, row, low_at(0))
        row = row_of((-2, 2, 5), (-1, 1, 4))
        self.assertEqual(next_coming(row, high_at(0)), ((1, 1), [(0, 1, "high")]))
        self.assert_refused(Together, 1, behind, row, high_at(0))

    def test_one_that_rests_at_a_wall(self):
        row = row_of((0, 0, 2), (4, -3, 2))
        self.assertEqual(next_coming(row, low_at(0)), ((4, 3), [(0, 1, "low")]))
        self.assertEqual(behind(row, low_at(0)), ((4, 3), row_of((0, 0, 2), (0, 3, 2)), low_at(0)))
        row = row_of((-5, 2, 2), (0, -1, 2))
        self.assertEqual(next_coming(row, high_at(0, -1)), ((5, 3), [(0, 1, "high")]))
        self.assertEqual(behind(row, high_at(0, -1)), (
            (5, 3), row_of(("-5/3", -4, 2), ("-5/3", -1, 2)), high_at("-5/3", -1)))

    def test_one_that_rests_at_a_wall_and_one_of_another_weight(self):
        self.assert_refused(Together, "4/3", behind, row_of((0, 0, 2), (4, -3, 1)), low_at(0))
        self.assert_refused(Together, "5/3", behind, row_of((-5, 2, 1), (0, -1, 2)), high_at(0, -1))

    def test_one_that_rests_at_a_wall_is_no_group_by_itself(self):
        row = row_of((0, 0), (4, 1), (6, -1))
        self.assertEqual(next_coming(row, low_at(0)), ((1, 1), [(1, 2, "")]))
        self.assertEqual(next_coming(row, box(0, 7)), ((1, 1), [(1, 2, "")]))

    def test_walls_that_meet(self):
        for row, walls, moment in [
                (row_of((5, 0)), (wall(0, 1), wall(10, -1)), 5),
                (row_of((0, 1)), (wall(0, 1), wall(10, -1)), 5),
                (row_of((10, -1)), (wall(0, 1), wall(10, -1)), 5),
                (row_of((0, 1), (10, -1)), (wall(0, 1), wall(10, -1)), 5),
                (row_of((3, 1)), (wall(0, 2), wall(3, 1)), 3),
                (row_of((0, 1, 1), (3, "2/5", 2), (10, -1, 3)), (wall(0, 1), wall(10, -1)), 5),
                (row_of((0, "1/8")), (wall("-1/9", "2/9"), wall("1/7")), "8/7"),
                # Here Together would be due, too.
                (row_of((2, "3/5", 1), (5, 0, 2), (8, "-3/5", 3)), (wall(0, 1), wall(10, -1)), 5)]:
            self.assertTrue(is_row(walls, row))
            self.assert_refused(Shut, moment, next_coming, row, walls)
            self.assert_refused(Shut, moment, behind, row, walls)

    def test_a_ball_that_comes_ahead_of_walls_that_meet(self):
        walls = (wall(0, 1), wall(10, -1))
        self.assertEqual(next_coming(row_of((4, 0)), walls), ((4, 1), [(0, 0, "low")]))
        self.assertEqual(behind(row_of((4, 0)), walls), ((4, 1), row_of((4, 2)), (wall(4, 1), wall(6, -1))))
        self.assertEqual(next_coming(row_of((4, 0), (6, 0)), walls), ((4, 1), [(0, 0, "low"), (1, 1, "high")]))
        row = row_of((2, "3/4", 1), (5, 0, 2), (8, "-3/4", 3))
        self.assertEqual(next_coming(row, walls), ((4, 1), [(0, 2, "")]))
        self.assert_refused(Together, 4, behind, row, walls)

    def test_great_and_small_fractions(self):
        row = row_of((Fraction(-1, GREAT), GREAT, 1000), (Fraction(1, GREAT - 1), -GREAT, 1))
        moment = Fraction(2 * GREAT - 1, GREAT * (GREAT - 1)) / (2 * GREAT)
        told = behind(row, OPEN)
        self.assertEqual(told[0], pair(moment))
        place = moment * GREAT - Fraction(1, GREAT)
        self.assertEqual(told[1], row_of((place, GREAT - Fraction(4 * GREAT, 1001), 1000),
                                         (place, -GREAT + Fraction(4000 * GREAT, 1001), 1)))
        row = row_of((GREAT, Fraction(-1, GREAT)))
        self.assertEqual(next_coming(row, low_at(-GREAT, Fraction(-1, GREAT - 1))), None)
        self.assertEqual(next_coming(row, low_at(-GREAT)), ((2 * GREAT ** 2, 1), [(0, 0, "low")]))

    def test_by_chance_against_stepping(self):
        kinds = {"none": 0, "many": 0, "three": 0, "wall": 0, "refused": 0, "shut": 0}
        for row, walls in rows_by_chance(31, 8):
            told = stepped_once(row, walls)
            if told is None:
                kinds["none"] += 1
                self.assertIs(next_coming(row, walls), None)
                self.assertIs(behind(row, walls), None)
                continue
            moment, groups, then = told
            if groups is Shut:
                kinds["shut"] += 1
                self.assert_refused(Shut, Fraction(*moment), next_coming, row, walls)
            else:
                self.assertEqual(next_coming(row, walls), (moment, groups))
                kinds["many"] += len(groups) > 1
                kinds["three"] += any([last - first > 1 for first, last, where in groups])
                kinds["wall"] += any([last > first and where != "" for first, last, where in groups])
            if isinstance(then, tuple):
                self.assertEqual(behind(row, walls), (moment,) + then)
                self.assertTrue(is_row(then[1], then[0]))
            else:
                kinds["refused"] += then is Together
                self.assert_refused(then, Fraction(*moment), behind, row, walls)
        self.assertTrue(all([many >= 5 for many in kinds.values()]), kinds)

    def test_push_and_energy_are_kept_where_no_wall_has_part(self):
        kept = 0
        for row, walls in rows_by_chance(32, 4):
            try:
                told = behind(row, walls)
            except (Shut, Together):
                continue
            if told is None:
                continue
            moment, groups = next_coming(row, walls)
            if all([where == "" for first, last, where in groups]):
                kept += 1
                self.assertEqual(push_of(told[1]), push_of(row))
                self.assertEqual(energy_of(told[1]), energy_of(row))
                self.assertEqual([one[2] for one in told[1]], [one[2] for one in row])
        self.assertGreater(kept, 50)

    def test_speeds_of_the_others_stay(self):
        row = row_of((0, 1, 2), (3, "1/7", 3), (4, -5, 9), (10, 10, 4))
        told = behind(row, OPEN)[1]
        self.assertEqual((told[0][1], told[3][1]), ((1, 1), (10, 1)))
        self.assertNotEqual((told[1][1], told[2][1]), ((1, 7), (-5, 1)))


class Kinds(unittest.TestCase):
    def test_kinds(self):
        row = row_of((1, -1), (2, -2), (5, 0))
        told = next_coming(row, low_at(0))
        self.assertIs(type(told), tuple)
        self.assertIs(type(told[1]), list)
        self.assertIs(type(told[1][0]), tuple)
        moment, then, walls = behind(row, low_at(0))
        self.assertIs(type(then), tuple)
        self.assertIs(type(walls), tuple)
        self.assertTrue(is_row(walls, then))

    def test_a_told_list_is_the_askers_own(self):
        row = row_of((1, -1), (2, -2), (5, 0))
        told = next_coming(row, low_at(0))
        told[1].append("more")
        self.assertEqual(next_coming(row, low_at(0)), ((1, 1), [(0, 1, "low")]))
        told = next_coming(row, low_at(0))
        told[1].clear()
        self.assertEqual(next_coming(row, low_at(0)), ((1, 1), [(0, 1, "low")]))

    def test_what_is_handed_in_stays(self):
        row, walls = (ball(1, -1, 3), ball(7, -2, 2)), (wall(0, 1), wall(9, "1/2"))
        behind(row, walls)
        next_coming(row, walls)
        self.assertEqual((row, walls), ((ball(1, -1, 3), ball(7, -2, 2)), (wall(0, 1), wall(9, "1/2"))))

    def test_arguments_by_name(self):
        row = row_of((1, -2))
        self.assertEqual(next_coming(walls=low_at(0), row=row), ((1, 2), [(0, 0, "low")]))
        self.assertEqual(behind(walls=low_at(0), row=row), ((1, 2), row_of((0, 2)), low_at(0)))
        for name in ["next_coming", "behind"]:
            self.assertEqual(list(inspect.signature(getattr(comings, name)).parameters), ["row", "walls"])

    def test_what_is_told_may_be_handed_in_again(self):
        row, walls = row_of((0, 3, 7), (5, "1/3", 11), (9, "-7/5", 13)), box(-1, 10)
        for step in range(60):
            moment, row, walls = behind(row, walls)
            self.assertTrue(is_row(walls, row))
        self.assertEqual(energy_of(row), pair(7 * 9 + 11 * Fraction(1, 9) + 13 * Fraction(49, 25)))


if __name__ == "__main__":
    unittest.main()
