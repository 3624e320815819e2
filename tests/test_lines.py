import inspect
import random
import unittest
from fractions import Fraction

from clackrow import lines
from clackrow.errors import NoBall, NotEven, Shut, Together, TooMany
from clackrow.lines import at_once, counted, lines_met
from clackrow.rows import is_even, is_row, is_still
from clackrow.runs import comings, gone
from tests.things import NOUGHT, OPEN, box, chance_row, counts_of, high_at, low_at, pair, row_of, stepped, value_of, wall

GREAT = 10 ** 60
FAR = 10 ** 30
BOX = box(0, 10)


def even_rows(seed, times):
    """Even rows of 1 to 8 balls between no wall, one, two that stand, and moments, comings among them."""
    source = random.Random(seed)
    for many in range(1, 9):
        for walls in [OPEN, low_at(-4), high_at(4), box(-4, 4)]:
            for bottoms in [(1,), (1, 2, 3), (1, 7, 11)]:
                for time in range(times):
                    row, walls = chance_row(source, many, [source.choice([1, 9, 1000])], walls, bottoms=bottoms)
                    yield row, walls, Fraction(source.randint(0, 30), source.choice([1, 2, 3, 7]))


class AtOnce(unittest.TestCase):
    def assert_at(self, row, walls, t, then):
        self.assertEqual(at_once(row, walls, pair(t)), then)
        self.assertEqual(gone(row, walls, pair(t))[0], then)

    def test_on_a_line(self):
        row = row_of((0, 3, 5), (1, 1, 5), (4, -2, 5))
        self.assert_at(row, OPEN, 0, row)
        self.assert_at(row, OPEN, "1/2", row_of(("3/2", 1, 5), ("3/2", 3, 5), (3, -2, 5)))
        self.assert_at(row, OPEN, 10, row_of((-16, -2, 5), (11, 1, 5), (30, 3, 5)))

    def test_with_one_wall(self):
        row = row_of((1, -2), (4, -1), (5, 3))
        self.assert_at(row, low_at(0), "1/4", row_of(("1/2", -2), ("15/4", -1), ("23/4", 3)))
        self.assert_at(row, low_at(0), "1/2", row_of((0, 2), ("7/2", -1), ("13/2", 3)))
        self.assert_at(row, low_at(0), 6, row_of((2, 1), (11, 2), (23, 3)))
        row = row_of((-5, -3), (-4, 1), (-1, 2))
        self.assert_at(row, high_at(0), "1/2", row_of(("-13/2", -3), ("-7/2", 1), (0, -2)))
        self.assert_at(row, high_at(0), 6, row_of((-23, -3), (-11, -2), (-2, -1)))

    def test_with_two_walls(self):
        row = row_of((1, 3, 2), (9, -1, 2))
        self.assert_at(row, BOX, 2, row_of((7, -1, 2), (7, 3, 2)))
        self.assert_at(row, BOX, 3, row_of((6, -1, 2), (10, -3, 2)))
        self.assert_at(row, BOX, 9, row_of((0, 1, 2), (8, 3, 2)))
        self.assert_at(row, BOX, 20, row)

    def test_just_at_a_wall_the_speed_behind_counts(self):
        self.assert_at(row_of((1, -1)), BOX, 1, row_of((0, 1)))
        self.assert_at(row_of((9, 1)), BOX, 1, row_of((10, -1)))
        self.assert_at(row_of((1, -1)), BOX, 11, row_of((10, -1)))
        self.assert_at(row_of((1, 1)), BOX, 19, row_of((0, 1)))
        self.assert_at(row_of((0, 1)), BOX, 0, row_of((0, 1)))
        self.assert_at(row_of((10, -1)), BOX, 0, row_of((10, -1)))
        self.assert_at(row_of((0, 1)), BOX, 10, row_of((10, -1)))
        self.assert_at(row_of((0, 1)), BOX, 20, row_of((0, 1)))

    def test_balls_that_rest(self):
        row = row_of((0, 0), (5, 0), (10, 0))
        for t in [0, 1, FAR]:
            self.assert_at(row, BOX, t, row)
        row = row_of((0, 0), (4, -2), (10, 0))
        self.assert_at(row, BOX, 2, row_of((0, 0), (0, 2), (10, 0)))
        self.assert_at(row, BOX, 7, row_of((0, 0), (10, -2), (10, 0)))
        self.assert_at(row_of((3, 0), (5, -1)), low_at(0), 2, row_of((3, -1), (3, 0)))

    def test_balls_that_touch(self):
        row = row_of((4, -1), (4, 0), (4, 2))
        self.assert_at(row, BOX, 0, row)
        self.assert_at(row, BOX, 1, row_of((3, -1), (4, 0), (6, 2)))
        self.assert_at(row, BOX, 20, row)

    def test_far_moments(self):
        row = row_of((1, 3, 2), (9, -1, 2), (9, 2, 2))
        for t in [0, 1, "7/3", 19]:
            for times in [1, 17, FAR, FAR + 1]:
                self.assertEqual(at_once(row, BOX, pair(Fraction(t) + 20 * times)), gone(row, BOX, pair(t))[0])
        row = row_of((1, -1), (4, "1/3"))
        self.assertEqual(at_once(row, low_at(0), (FAR, 1)), row_of((4 + Fraction(FAR, 3), "1/3"), (FAR - 1, 1)))
        self.assertEqual(at_once(row, high_at(5), (FAR, 1)), row_of((1 - FAR, -1), (6 - Fraction(FAR, 3), "-1/3")))
        self.assertEqual(at_once(row, OPEN, (FAR, 1)), row_of((1 - FAR, -1), (4 + Fraction(FAR, 3), "1/3")))

    def test_by_chance_against_stepping(self):
        for row, walls, t in even_rows(61, 3):
            so = stepped(row, walls, t, most=10 ** 6)
            self.assertEqual(at_once(row, walls, pair(t)), so[3], (row, walls, t))
            for one in so[1][-3:]:
                self.assertEqual(at_once(row, walls, one[0]), stepped(row, walls, value_of(one[0]), most=10 ** 6)[3])

    def test_in_two_parts_as_in_one(self):
        for row, walls, t in even_rows(62, 2):
            for more in [t / 3, Fraction(FAR, 7)]:
                then = at_once(row, walls, pair(t))
                self.assertTrue(is_row(walls, then))
                self.assertEqual(at_once(then, walls, pair(more)), at_once(row, walls, pair(t + more)))

    def test_great_and_small_fractions(self):
        row = row_of((Fraction(1, GREAT), Fraction(GREAT, 7), 3), (Fraction(GREAT, 3), Fraction(-GREAT, 9), 3),
                     (Fraction(GREAT, 2), Fraction(1, GREAT - 1), 3))
        walls = (wall(-Fraction(1, 7 ** 60)), wall(GREAT))
        for t in [Fraction(20), Fraction(GREAT, GREAT - 1), Fraction(1, GREAT)]:
            self.assertEqual(at_once(row, walls, pair(t)), stepped(row, walls, t)[3])

    def test_not_even(self):
        even = row_of((1, 3), (9, -1))
        for row, walls in [(row_of((1, 3, 1), (9, -1, 2)), BOX), (row_of((1, 3, 1), (9, -1, 2)), OPEN),
                           (even, (wall(0, 1), None)), (even, (None, wall(10, "-1/9"))), (even, (wall(0), wall(10, 1))),
                           (even, (wall(0, 1), wall(10, 1)))]:
            self.assertRaises(NotEven, at_once, row, walls, (1, 1))
            self.assertRaises(NotEven, lines_met, row, walls, 0, 1, (1, 1))
            self.assertRaises(NotEven, lines_met, row, walls, 7, -1, (1, 1))


class Counted(unittest.TestCase):
    def test_on_a_line(self):
        row = row_of((0, 2), (1, 1), (2, 0))
        self.assertEqual(counted(row, OPEN, pair("99/100")), (0, 0, 0))
        self.assertEqual(counted(row, OPEN, (1, 1)), (3, 0, 0))
        self.assertEqual(counted(row, OPEN, (FAR, 1)), (3, 0, 0))
        self.assertEqual(counted(row_of((0, 2, 1), (1, 1, 2), (3, 0, 1)), OPEN, (2, 1)), (2, 0, 0))

    def test_one_ball_and_two_walls(self):
        row = row_of((1, 3))
        for t, counts in [(0, (0, 0, 0)), ("29/10", (0, 0, 0)), (3, (0, 0, 1)), ("19/3", (0, 1, 1)), (9, (0, 1, 1)),
                          ("29/3", (0, 1, 2)), (20, (0, 3, 3)), (20 * FAR, (0, 3 * FAR, 3 * FAR))]:
            self.assertEqual(counted(row, BOX, pair(t)), counts, t)

    def test_a_ball_that_begins_at_a_wall(self):
        self.assertEqual(counted(row_of((0, 1)), BOX, (9, 1)), (0, 0, 0))
        self.assertEqual(counted(row_of((0, 1)), BOX, (20, 1)), (0, 1, 1))
        self.assertEqual(counted(row_of((10, -1)), BOX, (20, 1)), (0, 1, 1))
        self.assertEqual(counted(row_of((0, 0), (10, 0)), BOX, (FAR, 1)), (0, 0, 0))
        self.assertEqual(counted(row_of((0, 1)), low_at(0), (FAR, 1)), (0, 0, 0))
        self.assertEqual(counted(row_of((0, -1)), high_at(0), (FAR, 1)), (0, 0, 0))

    def test_several_at_a_wall(self):
        row = row_of((1, -1), (2, -2), (3, -3))
        self.assertEqual(counted(row, low_at(0), (1, 1)), (6, 3, 0))
        self.assertEqual(counted(row, low_at(0), (FAR, 1)), (6, 3, 0))
        row = row_of((-3, 3), (-2, 2), (-1, 1))
        self.assertEqual(counted(row, high_at(0), (1, 1)), (6, 0, 3))

    def test_one_that_rests_at_a_wall(self):
        self.assertEqual(counted(row_of((0, 0), (2, -2)), low_at(0), (1, 1)), (2, 1, 0))
        self.assertEqual(counted(row_of((0, 0), (1, -1), (2, -2)), low_at(0), (1, 1)), (6, 2, 0))
        self.assertEqual(counted(row_of((-2, 2), (0, 0)), high_at(0), (1, 1)), (2, 0, 1))
        # The same beside walls that go, so by the run.
        self.assertEqual(counted(row_of((0, 1), (1, 0), (2, -1)), low_at(0, 1), (1, 1)), (6, 2, 0))
        self.assertEqual(counted(row_of((-2, 3), (0, 1)), high_at(0, 1), (1, 1)), (2, 0, 1))
        self.assertEqual(counted(row_of((1, -1, 2), (2, -2, 2), (9, 5, 1)), low_at(0), (1, 1)), (2, 2, 0))
        self.assertEqual(counted(row_of((0, 0, 2), (2, -2, 2), (9, 5, 1)), low_at(0), (1, 1)), (2, 1, 0))
        self.assertEqual(counted(row_of((-9, -5, 1), (-2, 2, 2), (0, 0, 2)), high_at(0), (1, 1)), (2, 0, 1))

    def test_lines_that_touch_as_the_run_begins_have_not_met(self):
        row = row_of((4, -1), (4, 1))
        self.assertEqual(counted(row, OPEN, (FAR, 1)), (0, 0, 0))
        self.assertEqual(counted(row, low_at(0), (FAR, 1)), (0, 1, 0))
        self.assertEqual(counted(row, BOX, (9, 1)), (0, 1, 1))
        self.assertEqual(counted(row, BOX, (10, 1)), (1, 1, 1))
        self.assertEqual(counted(row_of((0, 1), (0, 2)), BOX, (7, 1)), (1, 0, 1))

    def test_by_chance_against_stepping(self):
        for row, walls, t in even_rows(63, 3):
            so = stepped(row, walls, t, most=10 ** 6)
            self.assertEqual(counted(row, walls, pair(t)), counts_of(so), (row, walls, t))
            if so[1]:
                last = value_of(so[1][-1][0])
                self.assertEqual(counted(row, walls, pair(last)), counts_of(stepped(row, walls, last, most=10 ** 6)))

    def test_far_moments(self):
        row = row_of((1, 3, 2), (4, 0, 2), (9, -1, 2), (9, 2, 2))
        once = counts_of(stepped(row, BOX, Fraction(20)))
        for t in [0, 1, "7/3", 19]:
            here = counts_of(stepped(row, BOX, Fraction(t)))
            for times in [1, 17, FAR]:
                told = counted(row, BOX, pair(Fraction(t) + 20 * times))
                self.assertEqual(told, tuple([times * many + more for many, more in zip(once, here)]))

    def test_more_than_400_groups_at_once(self):
        row = row_of(("1/2", 1))
        self.assertRaises(TooMany, comings, row, box(0, 1), (500, 1))
        self.assertEqual(counted(row, box(0, 1), (500, 1)), (0, 250, 250))

    def test_rows_that_are_not_even_and_walls_that_go(self):
        source = random.Random(64)
        told = {"gone": 0, "shut": 0, "together": 0, "many": 0}
        refusals = {"shut": Shut, "together": Together, "many": TooMany}
        for time in range(400):
            row, walls = chance_row(source, source.randint(1, 6), source.choice([[1], [1, 1, 2], [1, 2, 3]]))
            t = Fraction(source.randint(0, 60), source.choice([1, 2, 3]))
            if is_even(row) and is_still(walls):
                continue
            so = stepped(row, walls, t)
            told[so[0]] += 1
            if so[0] == "gone":
                self.assertEqual(counted(row, walls, pair(t)), counts_of(so))
                continue
            with self.assertRaises(refusals[so[0]]) as caught:
                counted(row, walls, pair(t))
            if so[0] != "many":
                self.assertEqual(caught.exception.moment, so[1])
        self.assertTrue(told["gone"] > 150 and min(told.values()) > 0, told)

    def test_refusals_in_their_order(self):
        walls = (wall(0, "1/9"), wall(10, "-1/9"))
        row = row_of((2, 1, 1), (3, 0, 2), (4, -1, 3))
        self.assertEqual(counted(row, walls, (1, 2)), (0, 0, 0))
        self.assertRaises(Together, counted, row, walls, (1, 1))
        self.assertRaises(Shut, counted, row, walls, (45, 1))
        knocker = row_of(("1/2", 1, 1), (9, 0, 2))
        self.assertRaises(Shut, counted, row_of((5, 999)), walls, (45, 1))
        self.assertRaises(TooMany, counted, row_of((5, 999)), walls, (44, 1))
        self.assertEqual(counted(knocker, OPEN, (FAR, 1)), (1, 0, 0))


class LinesMet(unittest.TestCase):
    def test_by_hand(self):
        row = row_of((1, 3), (4, 0), (9, -1))
        for i, j, t, many in [
                (0, 1, "99/100", 0), (0, 1, 1, 1), (0, 1, 5, 2), (0, 2, 2, 1), (0, 2, 3, 1), (1, 2, 5, 1), (1, 2, 12, 1),
                (1, 2, 13, 2), (0, 1, 20, 6), (1, 2, 20, 2), (0, 1, 20 * FAR, 6 * FAR), (1, 2, 20 * FAR, 2 * FAR)]:
            self.assertEqual(lines_met(row, BOX, i, j, pair(t)), many, (i, j, t))
            self.assertEqual(lines_met(row, BOX, j, i, pair(t)), many, (j, i, t))

    def test_at_a_wall_it_is_two(self):
        self.assertEqual(lines_met(row_of((1, -1), (2, -2)), BOX, 0, 1, (1, 1)), 2)
        self.assertEqual(lines_met(row_of((1, -1), (2, -2)), low_at(0), 0, 1, (1, 1)), 2)
        self.assertEqual(lines_met(row_of((-2, 2), (-1, 1)), high_at(0), 0, 1, (1, 1)), 2)
        self.assertEqual(lines_met(row_of((0, 0), (2, -2)), BOX, 0, 1, (1, 1)), 2)
        self.assertEqual(lines_met(row_of((0, 0), (2, -2)), BOX, 0, 1, (11, 1)), 4)

    def test_with_one_wall(self):
        row = row_of((1, -3), (4, -1))
        self.assertEqual([lines_met(row, low_at(0), 0, 1, pair(t)) for t in [1, "5/4", 2, FAR]], [0, 1, 1, 1])
        row = row_of((1, 1), (4, -3))
        self.assertEqual([lines_met(row, low_at(0), 0, 1, pair(t)) for t in [0, "3/4", 2, "5/2", FAR]], [0, 1, 1, 2, 2])

    def test_lines_of_one_pace(self):
        row = row_of((1, 2), (4, 2), (7, -2))
        self.assertEqual([lines_met(row, BOX, 0, 1, pair(t)) for t in [3, "15/4", 8, "35/4", 10]], [0, 1, 1, 2, 2])
        self.assertEqual([lines_met(row, BOX, 1, 2, pair(t)) for t in ["1/2", "3/4", 5, "23/4", 10]], [0, 1, 1, 2, 2])
        self.assertEqual(lines_met(row_of((1, 0), (4, 0)), BOX, 0, 1, (FAR, 1)), 0)
        self.assertEqual(lines_met(row_of((1, 2), (4, 2)), OPEN, 0, 1, (FAR, 1)), 0)

    def test_by_chance_against_stepping_the_two_alone(self):
        for row, walls, t in even_rows(65, 2):
            total = 0
            for j in range(len(row)):
                for i in range(j):
                    many = lines_met(row, walls, i, j, pair(t))
                    self.assertEqual(many, counts_of(stepped((row[i], row[j]), walls, t, most=10 ** 6))[0])
                    self.assertEqual(lines_met(row, walls, j, i, pair(t)), many)
                    total += many
            self.assertEqual(total, counted(row, walls, pair(t))[0])

    def test_no_ball(self):
        row = row_of((1, 3), (4, 0), (9, -1))
        for i, j in [(0, 3), (3, 0), (-1, 0), (0, -1), (-3, 1), (GREAT, 0), (0, -GREAT)]:
            self.assertRaises(NoBall, lines_met, row, BOX, i, j, (1, 1))
            self.assertRaises(NoBall, lines_met, row, OPEN, i, j, NOUGHT)


class Kinds(unittest.TestCase):
    def test_kinds(self):
        row = row_of((1, 3, 4), (9, -1, 4))
        then = at_once(row, BOX, (1, 1))
        self.assertIs(type(then), tuple)
        self.assertTrue(is_row(BOX, then))
        self.assertEqual([type(part) for part in counted(row, BOX, (9, 1))], [int, int, int])
        self.assertIs(type(counted(row, BOX, (9, 1))), tuple)
        self.assertIs(type(counted(row_of((1, 3, 4), (9, -1, 5)), BOX, (9, 1))), tuple)
        self.assertIs(type(lines_met(row, BOX, 0, 1, (9, 1))), int)

    def test_arguments_by_name(self):
        row = row_of((1, 3), (9, -1))
        self.assertEqual(at_once(t=(20, 1), walls=BOX, row=row), row)
        self.assertEqual(counted(t=(2, 1), walls=BOX, row=row), (1, 0, 0))
        self.assertEqual(lines_met(t=(2, 1), j=1, i=0, walls=BOX, row=row), 1)
        names = {"at_once": ["row", "walls", "t"], "counted": ["row", "walls", "t"],
                 "lines_met": ["row", "walls", "i", "j", "t"]}
        for name, parameters in names.items():
            self.assertEqual(list(inspect.signature(getattr(lines, name)).parameters), parameters, name)


if __name__ == "__main__":
    unittest.main()
