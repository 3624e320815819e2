import inspect
import random
import unittest
from fractions import Fraction

from clackrow import rounds
from clackrow.errors import NotEven
from clackrow.lines import at_once
from clackrow.rounds import lets_round, round_of
from tests.things import OPEN, box, chance_row, high_at, low_at, moments_at, pair, row_of, stepped, value_of, wall

GREAT = 10 ** 60
BOX = box(0, 10)


def box_rows(seed, times, most=8):
    """Even rows of which a ball moves, between two walls that stand; some of several balls of one pace, spread so that
    their phases come again soon."""
    source = random.Random(seed)
    for many in range(1, most + 1):
        for bottoms in [(1,), (1, 2, 3), (1, 1, 5)]:
            for time in range(times):
                row, walls = chance_row(source, many, [3], box(-4, 4), bottoms=bottoms)
                if any([one[1] != (0, 1) for one in row]):
                    yield row, walls


def spread(many, pace, first, length):
    """So many balls of one pace in a box from 0 to length, their phases put on by 2 * length / many each."""
    balls = []
    for k in range(many):
        phase = (Fraction(first) + Fraction(2 * length * k, many)) % (2 * length)
        balls.append((phase, pace) if phase < length else (2 * length - phase, -pace))
    return balls


def row_from(balls):
    return row_of(*sorted([(Fraction(place), Fraction(speed)) for place, speed in balls]))


class RoundOf(unittest.TestCase):
    def test_no_ball_moves(self):
        for row in [row_of((0, 0)), row_of((5, 0, 7)), row_of((0, 0), (4, 0), (10, 0))]:
            self.assertIs(round_of(row, BOX), None)

    def test_one_ball(self):
        self.assertEqual(round_of(row_of((3, 1)), BOX), ((20, 1), [((1, 1), 1)]))
        self.assertEqual(round_of(row_of((3, "-2/3", 9)), BOX), ((30, 1), [((2, 3), 1)]))
        self.assertEqual(round_of(row_of((0, 3)), BOX), ((20, 3), [((3, 1), 1)]))
        self.assertEqual(round_of(row_of((10, -3)), BOX), ((20, 3), [((3, 1), 1)]))
        self.assertEqual(round_of(row_of((0, 0), (3, 1), (7, 0)), BOX), ((20, 1), [((1, 1), 1)]))

    def test_one_pace(self):
        self.assertEqual(round_of(row_of((3, 1), (4, 1)), BOX), ((20, 1), [((1, 1), 1)]))
        # Phases 3 and 13.
        self.assertEqual(round_of(row_of((3, 1), (7, -1)), BOX), ((10, 1), [((1, 1), 2)]))
        self.assertEqual(round_of(row_of((3, 1), (6, -1)), BOX), ((20, 1), [((1, 1), 1)]))
        # Phases 0 and 10.
        self.assertEqual(round_of(row_of((0, 1), (10, -1)), BOX), ((10, 1), [((1, 1), 2)]))
        # Phases 3, 13, 8, 18.
        self.assertEqual(round_of(row_of((2, -1), (3, 1), (7, -1), (8, 1)), BOX), ((5, 1), [((1, 1), 4)]))
        # Two pairs of phases that are opposite, not four alike far.
        self.assertEqual(round_of(row_of((3, 1), (4, 1), (6, -1), (7, -1)), BOX), ((10, 1), [((1, 1), 2)]))

    def test_phases_that_fall_on_one_another(self):
        for many in range(1, 9):
            for first in ["1/7", "3/5", 1]:
                row = row_from(spread(many, Fraction(3, 2), first, 10))
                self.assertEqual(round_of(row, BOX), (pair(Fraction(40, 3 * many)), [((3, 2), many)]))

    def test_six_that_are_two_threes(self):
        row = row_from(spread(3, 1, "1/7", 10) + spread(3, 1, "3/7", 10))
        self.assertEqual(round_of(row, BOX), ((20, 3), [((1, 1), 3)]))
        row = row_from(spread(2, 1, "1/7", 10) + spread(2, 1, "3/7", 10) + spread(2, 1, 2, 10))
        self.assertEqual(round_of(row, BOX), ((10, 1), [((1, 1), 2)]))
        row = row_from(spread(4, 1, "1/7", 10) + spread(4, 1, "3/7", 10))
        self.assertEqual(round_of(row, BOX), ((5, 1), [((1, 1), 4)]))

    def test_several_paces(self):
        self.assertEqual(round_of(row_of((3, 1), (4, 2)), BOX), ((20, 1), [((1, 1), 1), ((2, 1), 1)]))
        self.assertEqual(round_of(row_of((3, 2), (4, -3)), BOX), ((20, 1), [((2, 1), 1), ((3, 1), 1)]))
        self.assertEqual(round_of(row_of((3, "1/2"), (4, "-1/3"), (9, 0)), BOX), ((120, 1), [((1, 3), 1), ((1, 2), 1)]))
        # Two of pace 1, that come again after 10, and one of pace 4, after 5.
        row = row_of((3, 1), (5, 4), (7, -1))
        self.assertEqual(round_of(row, BOX), ((10, 1), [((1, 1), 2), ((4, 1), 1)]))
        self.assertEqual(round_of(row_of((3, "10/9"), (5, "10/7")), BOX), ((126, 1), [((10, 9), 1), ((10, 7), 1)]))

    def test_by_chance_the_row_is_what_it_was_at_no_lesser_moment(self):
        asked = 0
        for row, walls in box_rows(71, 6):
            moment = value_of(round_of(row, walls)[0])
            self.assertEqual(at_once(row, walls, pair(moment)), row)
            if moment > 60:
                continue
            self.assertEqual(stepped(row, walls, moment, most=10 ** 6)[3], row)
            k = [one[1] != (0, 1) for one in row].index(True)
            for lesser in moments_at(row, walls, k, value_of(row[k][0]), moment):
                if 0 < lesser < moment:
                    asked += 1
                    self.assertNotEqual(stepped(row, walls, lesser, most=10 ** 6)[3], row)
        self.assertGreater(asked, 100)

    def test_by_chance_the_paper(self):
        for row, walls in box_rows(72, 6):
            moment, paper = round_of(row, walls)
            paces = sorted(set([abs(value_of(one[1])) for one in row]) - {0})
            self.assertEqual([value_of(pace) for pace, many in paper], paces)
            self.assertTrue(lets_round(row, walls, moment, paper))

    def test_great_and_small_fractions(self):
        walls = box(Fraction(-1, GREAT), Fraction(1, GREAT - 1))
        trip = 2 * (Fraction(1, GREAT) + Fraction(1, GREAT - 1))
        self.assertEqual(round_of(row_of((0, GREAT)), walls), (pair(trip / GREAT), [((GREAT, 1), 1)]))
        row = row_of((0, Fraction(1, GREAT)), (1, Fraction(1, GREAT - 1)))
        self.assertEqual(round_of(row, BOX), ((20 * GREAT * (GREAT - 1), 1), [((1, GREAT), 1), ((1, GREAT - 1), 1)]))

    def test_not_even(self):
        even = row_of((3, 1), (4, 2))
        for row, walls in [(row_of((3, 1, 1), (4, 2, 2)), BOX), (even, OPEN), (even, low_at(0)), (even, high_at(9)),
                           (even, (wall(0), wall(9, 1))), (even, (wall(0, 1), wall(9))), (row_of((3, 0, 1), (4, 0, 2)), BOX)]:
            self.assertRaises(NotEven, round_of, row, walls)
            self.assertRaises(NotEven, lets_round, row, walls, (20, 1), [((1, 1), 1), ((2, 1), 1)])
            self.assertRaises(NotEven, lets_round, row, walls, (20, 1), [])


class LetsRound(unittest.TestCase):
    def test_the_told_one(self):
        for row in [row_of((3, 1)), row_of((3, 1), (5, 4), (7, -1)), row_of((2, -1), (3, 1), (7, -1), (8, 1))]:
            moment, paper = round_of(row, BOX)
            self.assertIs(lets_round(row, BOX, moment, paper), True)
            self.assertIs(lets_round(row, BOX, moment, tuple(paper)), True)

    def test_another_moment(self):
        row = row_of((3, 1), (5, 4), (7, -1))
        paper = [((1, 1), 2), ((4, 1), 1)]
        self.assertIs(lets_round(row, BOX, (10, 1), paper), True)
        for moment in [(5, 1), (20, 1), (30, 1), (10, 3), (1, 1), (10 * GREAT + 1, GREAT)]:
            self.assertIs(lets_round(row, BOX, moment, paper), False)

    def test_another_many(self):
        row = row_from(spread(6, 1, "1/7", 10))
        self.assertIs(lets_round(row, BOX, (10, 3), [((1, 1), 6)]), True)
        for many in [1, 2, 3, 4, 5, 7, 12, 0, -1, -6, 6 * GREAT, GREAT]:
            self.assertIs(lets_round(row, BOX, (10, 3), [((1, 1), many)]), False, many)
            if many != 0:
                self.assertIs(lets_round(row, BOX, pair(abs(Fraction(20, many))), [((1, 1), many)]), False, many)

    def test_a_many_that_is_not_the_greatest_with_its_moment(self):
        for greatest in range(1, 9):
            row = row_from(spread(greatest, 1, "1/7", 10))
            for many in range(1, 20):
                let = lets_round(row, BOX, pair(Fraction(20, many)), [((1, 1), many)])
                self.assertIs(let, many == greatest, (greatest, many))

    def test_other_paces(self):
        row = row_of((3, 1), (5, 4), (7, -1), (9, 0))
        good = [((1, 1), 2), ((4, 1), 1)]
        self.assertIs(lets_round(row, BOX, (10, 1), good), True)
        for paper in [
                [], good[:1], good[1:], good[::-1], good + good, good + [((5, 1), 1)], [((0, 1), 1)] + good,
                [good[0], good[0], good[1]], [good[0], good[1], good[1]], [((1, 1), 2), ((3, 1), 1)],
                [((1, 2), 2), ((4, 1), 1)], [((-1, 1), 2), ((4, 1), 1)], [((1, 1), 2), ((-4, 1), 1)],
                [((1, 1), 1), ((4, 1), 2)], [((1, 1), 1), ((4, 1), 1)], [((4, 1), 1), ((1, 1), 2)]]:
            for moment in [(10, 1), (20, 1), (5, 1)]:
                self.assertIs(lets_round(row, BOX, moment, paper), False, paper)
                self.assertIs(lets_round(row, BOX, moment, tuple(paper)), False, paper)

    def test_by_chance_other_papers(self):
        source = random.Random(73)
        for row, walls in box_rows(74, 3):
            moment, paper = round_of(row, walls)
            for time in range(6):
                other = list(paper)
                k = source.randrange(len(other))
                pace, many = other[k]
                other[k] = source.choice([(pace, many + 1), (pace, many * 2), (pace, many * 3), (pace, many - 1),
                                          (pair(value_of(pace) + 1), many), (pair(-value_of(pace)), many)])
                for factor in [1, 2, Fraction(1, 2), Fraction(many, many + 1)]:
                    self.assertIs(lets_round(row, walls, pair(value_of(moment) * factor), other), False)


    def test_where_no_ball_moves_there_is_none(self):
        self.assertIs(lets_round(row_of((3, 0)), BOX, (20, 1), []), False)
        self.assertIs(lets_round(row_of((3, 0)), BOX, (20, 1), [((1, 1), 1)]), False)


class Kinds(unittest.TestCase):
    def test_kinds(self):
        told = round_of(row_of((3, 1)), BOX)
        self.assertEqual((type(told), type(told[1]), type(told[1][0])), (tuple, list, tuple))

    def test_a_told_list_is_the_askers_own(self):
        row = row_of((3, 1), (5, 4), (7, -1))
        paper = round_of(row, BOX)[1]
        kept = list(paper)
        paper.append(((9, 1), 1))
        paper[0] = None
        self.assertEqual(round_of(row, BOX), ((10, 1), kept))
        self.assertIs(lets_round(row, BOX, (10, 1), kept), True)

    def test_what_is_handed_in_stays(self):
        paper = [((1, 1), 2), ((4, 1), 1)]
        lets_round(row_of((3, 1), (5, 4), (7, -1)), BOX, (10, 1), paper)
        self.assertEqual(paper, [((1, 1), 2), ((4, 1), 1)])

    def test_arguments_by_name(self):
        self.assertEqual(round_of(walls=BOX, row=row_of((3, 1))), ((20, 1), [((1, 1), 1)]))
        self.assertIs(lets_round(paper=[((1, 1), 1)], moment=(20, 1), walls=BOX, row=row_of((3, 1))), True)
        names = {"round_of": ["row", "walls"], "lets_round": ["row", "walls", "moment", "paper"]}
        for name, parameters in names.items():
            self.assertEqual(list(inspect.signature(getattr(rounds, name)).parameters), parameters, name)


if __name__ == "__main__":
    unittest.main()
