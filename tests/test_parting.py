import inspect
import random
import unittest
from fractions import Fraction

from clackrow import parting
from clackrow.errors import NoEnd, NotEven
from clackrow.lines import counted
from clackrow.parting import knocks_ever
from clackrow.runs import comings
from tests.things import OPEN, box, chance_row, counts_of, high_at, low_at, pair, row_of, stepped, wall

GREAT = 10 ** 60
NEAR = Fraction(1, GREAT)


def parted(low, high):
    """Walls at -4 and 4 of these speeds."""
    return (wall(-4, low), wall(4, high))


def knocked(row, walls):
    """How many knocks come in the run, to its end."""
    return counts_of(stepped(row, walls, None, most=10 ** 5))[1:]


class Told(unittest.TestCase):
    def test_between_the_walls_speeds_none_come(self):
        for speed in [-1, 0, 2, Fraction(1, 2), 2 - NEAR, NEAR - 1]:
            self.assertEqual(knocks_ever(row_of((0, speed)), parted(-1, 2)), (0, 0), speed)

    def test_one_ball(self):
        for speed, told in [(3, (0, 1)), (4, (0, 1)), (5, (0, 1)), (6, (1, 1)), (8, (1, 1)), (9, (1, 2)), (11, (1, 2)),
                            (12, (2, 2)), (-2, (1, 0)), (-4, (1, 0)), (-5, (1, 1)), (-7, (1, 1)), (-8, (2, 1)),
                            (2 + NEAR, (0, 1)), (5 + NEAR, (1, 1)), (-1 - NEAR, (1, 0)), (-4 - NEAR, (1, 1))]:
            self.assertEqual(knocks_ever(row_of((0, speed)), parted(-1, 2)), told, speed)

    def test_walls_that_both_go_one_way(self):
        self.assertEqual(knocks_ever(row_of((0, 0)), parted(3, 4)), (2, 1))
        self.assertEqual(knocks_ever(row_of((0, 0)), parted(-4, -3)), (1, 2))
        self.assertEqual(knocks_ever(row_of((0, 0)), parted(3, 6)), (1, 0))
        self.assertEqual(knocks_ever(row_of((0, 0)), parted(-9, -3)), (0, 1))
        self.assertEqual(knocks_ever(row_of((0, 0)), parted(0, 1)), (0, 0))

    def test_walls_that_part_by_little(self):
        self.assertEqual(knocks_ever(row_of((0, 5)), parted(0, NEAR)), ((5 * GREAT - 1) // 2, 5 * GREAT // 2))
        self.assertEqual(knocks_ever(row_of((0, -5)), parted(0, NEAR)), (5 * GREAT // 2, 5 * GREAT // 2))
        self.assertEqual(knocks_ever(row_of((0, GREAT)), parted(0, NEAR))[1], GREAT * GREAT // 2)
        self.assertEqual(knocks_ever(row_of((0, 1)), parted(0, Fraction(2, 25))), (6, 6))

    def test_several_balls_add_up(self):
        walls = parted(-1, 2)
        row = row_of((-3, 12), (-1, -8), (0, 0), (1, 9), (2, -5), (3, 3))
        self.assertEqual(knocks_ever(row, walls), (2 + 2 + 0 + 1 + 1 + 0, 2 + 1 + 0 + 2 + 1 + 1))
        self.assertEqual(knocks_ever(row, walls), knocked(row, walls))

    def test_balls_at_walls(self):
        for row in [row_of((-4, -1)), row_of((-4, 7)), row_of((4, 2)), row_of((4, -7)), row_of((-4, -1), (4, 2)),
                    row_of((-4, 8), (4, -8)), row_of((-4, -1), (-4, 3), (4, -9), (4, 2))]:
            self.assertEqual(knocks_ever(row, parted(-1, 2)), knocked(row, parted(-1, 2)), row)

    def test_balls_that_come_to_a_wall_together(self):
        row = row_of((-2, 6), (0, 4), (2, 2))
        walls = (wall(-4), wall(4, 1))
        self.assertEqual(comings(row, walls, (3, 1))[-1][3], "high")
        self.assertEqual(knocks_ever(row, walls), knocked(row, walls))
        row = row_of((-2, 9), (1, 6))
        walls = (wall(-4), wall(3, 1))
        self.assertEqual(comings(row, walls, (2, 1))[0], ((2, 5), 1, 1, "high"))
        self.assertEqual(knocks_ever(row, walls), knocked(row, walls))

    def test_by_chance_against_the_comings_of_the_run(self):
        source = random.Random(1211)
        many = 0
        for k in range(500):
            walls = (wall(-4, Fraction(source.randint(-4, 4), source.choice([1, 2, 3]))), None)
            beyond = Fraction(source.choice([1, 1, 2, 3]), source.choice([1, 2, 5, 9]))
            walls = (walls[0], wall(4, Fraction(*walls[0][1]) + beyond))
            row = chance_row(source, source.randint(1, 6), [source.choice([1, 7])], walls)[0]
            told = knocked(row, walls)
            self.assertEqual(knocks_ever(row, walls), told, (row, walls))
            many = max(many, sum(told))
        self.assertGreater(many, 60)

    def test_balls_that_begin_where_walls_are_by_chance(self):
        source = random.Random(1212)
        asked = 0
        while asked < 150:
            row, walls = chance_row(source, source.randint(1, 6), [1])
            if None not in walls and Fraction(*walls[0][1]) < Fraction(*walls[1][1]):
                self.assertEqual(knocks_ever(row, walls), knocked(row, walls), (row, walls))
                asked += 1

    def test_against_what_is_counted(self):
        row = row_of((-3, 12), (-1, -8), (1, 9))
        walls = parted(-1, 2)
        self.assertEqual(counted(row, walls, pair(10 ** 9))[1:], knocks_ever(row, walls))

    def test_eight_balls_are_told_too(self):
        row = row_of(*[(Fraction(k - 4, 2), k) for k in range(8)])
        self.assertEqual(knocks_ever(row, parted(-1, 2)), knocked(row, parted(-1, 2)))

    def test_kinds(self):
        told = knocks_ever(row_of((0, 9)), parted(-1, 2))
        self.assertEqual([type(told)] + [type(one) for one in told], [tuple, int, int])


class Refused(unittest.TestCase):
    UNEVEN = row_of((0, 1, 1), (1, 2, 2))
    EVEN = row_of((0, 1, 2), (1, 2, 2))
    ENDLESS = [OPEN, low_at(-4), high_at(4), low_at(-4, -1), high_at(4, 1), box(-4, 4), parted(1, 1), parted(-2, -2),
               parted(2, 1), parted(0, -NEAR), parted(NEAR, 0)]

    def test_not_even_ahead_of_no_end(self):
        for walls in self.ENDLESS + [parted(-1, 2)]:
            self.assertRaises(NotEven, knocks_ever, self.UNEVEN, walls)

    def test_no_end(self):
        for walls in self.ENDLESS:
            self.assertRaises(NoEnd, knocks_ever, self.EVEN, walls)
            self.assertRaises(NoEnd, knocks_ever, row_of((0, 0, 5)), walls)

    def test_just_within(self):
        self.assertEqual(knocks_ever(row_of((0, 0)), parted(0, NEAR)), (0, 0))
        self.assertEqual(knocks_ever(row_of((0, 0)), parted(-NEAR, 0)), (0, 0))


class Kinds(unittest.TestCase):
    def test_arguments_by_name(self):
        self.assertEqual(knocks_ever(walls=parted(-1, 2), row=row_of((0, 3))), (0, 1))
        self.assertEqual(list(inspect.signature(parting.knocks_ever).parameters), ["row", "walls"])


if __name__ == "__main__":
    unittest.main()
