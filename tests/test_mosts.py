import inspect
import math
import random
import unittest
from fractions import Fraction

from clackrow import mosts
from clackrow.errors import NoRow
from clackrow.lines import counted
from clackrow.mosts import lets_most, most_of
from clackrow.ratios import is_ratio
from clackrow.rows import is_row
from clackrow.runs import ended, is_quiet
from tests.things import OPEN, OTHER_KINDS, chance_row, counts_of, high_at, low_at, pair, row_of, stepped

SMALL = [(a, b, c) for a in [None, 1, 2, 3, 7] for b in [1, 2, 3, 7] for c in [None, 1, 2, 3, 7] if a or c]
GREAT = [(1000, 1, 1000), (None, 1, 1000), (1000, 1, None), (1000, 1000, 1000), (1, 1000, 1), (None, 1000, 1),
         (1, 1000, None), (999, 1, 1000), (1000, 7, 31), (None, 3, 997), (997, 3, None), (1, 1, 1000), (1000, 2, 1)]

NO_WEIGHTS = OTHER_KINDS + [
    (None, 1, None), (None, None, None), (1, None, 1), (None, None, 1), (1, None, None),
    (0, 1, 1), (1, 0, 1), (1, 1, 0), (1001, 1, 1), (1, 1001, 1), (1, 1, 1001), (None, 1, 0), (None, 1001, 1),
    (None, 1, 1001), (None, 0, 1), (0, 1, None), (1001, 1, None), (1, 0, None), (1, 1001, None), (-1, 1, 1), (1, -1, 1),
    (1, 1, -1), (True, 1, 1), (1, True, 1), (1, 1, True), (False, 1, 1), (None, 1, True), (None, True, 1),
    (True, 1, None), (None, 1, False), (False, 1, None), ("1", 1, 1), (1, "1", 1), (1, 1, "1"), ("-", 1, 1), ("", 1, 1),
    ((1, 1), 1, 1), (1, (1, 1), 1), (1, 1, (1, 1)), ([1], 1, 1), (1, [], 1), (None, 1, "None"),
    [1, 1, 1], [None, 1, 1], [1, 1, None], (1, 1), (None, 1), (1, 1, 1, 1), (None, 1, 1, None), ((1, 1, 1),), "111",
    {1: 1, 2: 1, 3: 1}, (10 ** 60, 1, 1), (1, 10 ** 60, 1), (1, 1, -10 ** 60),
]


def reckoned(weights):
    """The numbers, as 9.1 writes them."""
    first, middle, last = weights
    if first is None or last is None:
        other = last if first is None else first
        c = Fraction(4 * other, other + middle)
    else:
        c = Fraction(4 * first * last, (first + middle) * (middle + last))
    numbers = [Fraction(1), Fraction(1)]
    while True:
        at = len(numbers) - 1
        numbers.append(numbers[at] * (c if at in range(1, at + 1, 2) else 1) - numbers[at - 1])
        if numbers[-1] <= 0:
            return numbers


def turned_angle(weights):
    """Half a turn by the angle that the three weights make, by numbers with a point."""
    first, middle, last = weights
    left = 1 if first is None else first / (first + middle)
    right = 1 if last is None else last / (last + middle)
    return math.pi / math.acos(math.sqrt(left * right))


def chance_weights(source):
    weights = [source.choice([source.randint(1, 1000), source.randint(1, 9), 1, 1000]) for k in range(3)]
    wall_at = source.choice([None, 0, 2])
    if wall_at is not None:
        weights[wall_at] = None
    return tuple(weights)


class Most(unittest.TestCase):
    def test_told_cases(self):
        for weights, most in [((1, 1, 1), 3), ((None, 1, 1), 4), ((1, 1, None), 4), ((5, 5, 5), 3), ((1, 2, 1), 3),
                              ((2, 1, 2), 4), ((None, 1, 3), 6), ((3, 1, None), 6), ((None, 3, 1), 3), ((3, 1, 3), 5),
                              ((1, 1000, 1), 3), ((1000, 1, 1000), 71), ((None, 1, 1000), 100), ((1000, 1, None), 100),
                              ((None, 1, 100), 32), ((1, 1, 3), 4)]:
            self.assertEqual(most_of(weights)[0], most, weights)

    def test_told_numbers(self):
        self.assertEqual(most_of((1, 1, 1))[1], [(1, 1), (1, 1), (0, 1)])
        self.assertEqual(most_of((None, 1, 1))[1], [(1, 1), (1, 1), (1, 1), (0, 1)])
        self.assertEqual(most_of((3, 1, None))[1], [(1, 1), (1, 1), (2, 1), (1, 1), (1, 1), (0, 1)])
        self.assertEqual(most_of((1, 2, 1))[1], [(1, 1), (1, 1), (-5, 9)])
        self.assertEqual(most_of((2, 1, 2))[1], [(1, 1), (1, 1), (7, 9), (-2, 9)])

    def test_the_numbers_are_as_they_are_reckoned(self):
        source = random.Random(901)
        for weights in SMALL + GREAT + [chance_weights(source) for k in range(200)]:
            most, numbers = most_of(weights)[:2]
            self.assertEqual(numbers, [pair(number) for number in reckoned(weights)], weights)
            self.assertEqual(most, len(numbers), weights)
            self.assertGreaterEqual(most, 3)
            self.assertTrue(all([is_ratio(number) for number in numbers]))

    def test_it_is_what_the_angle_tells(self):
        source = random.Random(902)
        asked = 0
        for weights in SMALL + GREAT + [chance_weights(source) for k in range(300)]:
            turns = turned_angle(weights)
            if abs(turns - round(turns)) > 10 ** -6:
                asked += 1
                self.assertEqual(most_of(weights)[0], math.ceil(turns), weights)
        self.assertGreater(asked, 200)

    def test_as_many_groups_come_from_the_told_beginning(self):
        source = random.Random(903)
        for weights in SMALL + GREAT + [chance_weights(source) for k in range(100)]:
            most, numbers, row, walls = most_of(weights)
            self.assertTrue(is_row(walls, row), weights)
            self.assertEqual(tuple([ball[2] for ball in row]), tuple([one for one in weights if one is not None]))
            self.assertEqual([one is not None for one in walls], [weights[0] is None, weights[2] is None])
            self.assertTrue(all([one is None or one[1] == (0, 1) for one in walls]), weights)
            told, row_then, walls_then = ended(row, walls)
            self.assertEqual(stepped(row, walls, None)[1], told)
            self.assertEqual(len(told), most, weights)
            self.assertTrue(is_quiet(row_then, walls_then))
            for moment, first, last, where in told:
                self.assertEqual(last - first, 0 if where else 1, weights)
            self.assertEqual(sum(counted(row, walls, told[-1][0])), most)

    def test_other_beginnings_have_no_more(self):
        source = random.Random(904)
        seen = {}
        for k in range(2500):
            weights = source.choice([(1, 1, 1), (None, 1, 1), (1, 1, None), (2, 1, 2), (3, 1, 5), (None, 1, 3),
                                     (4, 1, None), (1, 3, 1)])
            balls = [one for one in weights if one is not None]
            walls = low_at(-4) if weights[0] is None else high_at(4) if weights[2] is None else OPEN
            row = chance_row(source, len(balls), [1], walls)[0]
            row = tuple([ball[:2] + (weight,) for ball, weight in zip(row, balls)])
            told = stepped(row, walls, None)
            if told[0] == "gone":
                seen[weights] = max(seen.get(weights, 0), sum(counts_of(told)))
                self.assertLessEqual(sum(counts_of(told)), most_of(weights)[0], (row, walls))
        self.assertEqual(seen[(1, 1, 1)], 3)
        self.assertEqual(seen[(None, 1, 1)], 4)
        self.assertEqual(seen[(1, 1, None)], 4)

    def test_groups_of_three_alike_count_as_their_meetings(self):
        self.assertEqual(sum(counted(row_of((-1, 1), (0, 0), (1, -1)), OPEN, (9, 1))), most_of((1, 1, 1))[0])
        self.assertEqual(sum(counted(row_of((1, -1), (2, -2)), low_at(0), (9, 1))), most_of((None, 1, 1))[0])

    def test_kinds(self):
        told = most_of((None, 2, 3))
        self.assertEqual([type(one) for one in told], [int, list, tuple, tuple])


class Judge(unittest.TestCase):
    def test_what_is_told_is_let_by(self):
        for weights in SMALL + GREAT:
            most, numbers = most_of(weights)[:2]
            self.assertIs(lets_most(weights, most, numbers), True)
            self.assertIs(lets_most(weights, most, tuple(numbers)), True)

    def test_another_most_is_not(self):
        for weights in SMALL + GREAT:
            most, numbers = most_of(weights)[:2]
            for other in [most - 1, most + 1, -most, 0, 3 if most != 3 else 2, 10 ** 60]:
                self.assertIs(lets_most(weights, other, numbers), False, (weights, other))
                self.assertIs(lets_most(weights, other, tuple(numbers)), False, (weights, other))

    def test_other_numbers_are_not(self):
        for weights in SMALL + [(None, 1, 40), (1000, 1000, 1000)]:
            most, numbers = most_of(weights)[:2]
            wrong = [[], numbers[:-1], numbers[1:], numbers + [(0, 1)], numbers + [numbers[-1]], [(1, 1)] + numbers]
            wrong.append(numbers + [pair(Fraction(*numbers[-1]) - Fraction(*numbers[-2]))])
            wrong += [numbers[:k] + [(numbers[k][0] + numbers[k][1], numbers[k][1])] + numbers[k + 1:]
                      for k in range(most)]
            wrong += [numbers[:k] + [(-numbers[k][0], numbers[k][1])] + numbers[k + 1:] for k in range(most)]
            wrong += [numbers[:k] + [numbers[k + 1], numbers[k]] + numbers[k + 2:] for k in range(most - 1)]
            # Noughts have no opposite, and some neighbours are alike.
            for some in [one for one in wrong if one != numbers]:
                for many in [most, len(some)]:
                    self.assertIs(lets_most(weights, many, some), False, (weights, some))
                    self.assertIs(lets_most(weights, many, tuple(some)), False, (weights, some))

    def test_numbers_of_other_weights_are_not(self):
        most, numbers = most_of((2, 1, 2))[:2]
        self.assertIs(lets_most((2, 1, 3), most, numbers), False)
        self.assertIs(lets_most((None, 1, 1), most, numbers), False)


class Refused(unittest.TestCase):
    def test_no_three_weights(self):
        for thing in NO_WEIGHTS:
            self.assertRaises(NoRow, most_of, thing)
            self.assertRaises(NoRow, lets_most, thing, 3, [(1, 1), (1, 1), (0, 1)])

    def test_bounds(self):
        for weights in [(1, 1, 1000), (1, 1000, 1), (1000, 1, 1), (None, 1000, 1000), (1000, 1000, None)]:
            self.assertIs(lets_most(weights, *most_of(weights)[:2]), True)


class Kinds(unittest.TestCase):
    def test_a_told_list_is_the_askers_own(self):
        for weights in [(1, 1, 1), (None, 2, 5)]:
            told = most_of(weights)
            kept = list(told[1])
            told[1].clear()
            self.assertEqual(most_of(weights)[1], kept)
            self.assertIs(lets_most(weights, len(kept), kept), True)

    def test_nothing_handed_in_is_changed(self):
        numbers = most_of((3, 1, 3))[1]
        handed = list(numbers)
        lets_most((3, 1, 3), 5, handed)
        self.assertEqual(handed, numbers)

    def test_the_same_question_has_the_same_answer(self):
        for weights in SMALL:
            self.assertEqual(most_of(weights), most_of(weights))

    def test_arguments_by_name(self):
        self.assertEqual(most_of(weights=(1, 1, 1))[0], 3)
        self.assertIs(lets_most(numbers=[(1, 1), (1, 1), (0, 1)], most=3, weights=(1, 1, 1)), True)
        for name, parameters in [("most_of", ["weights"]), ("lets_most", ["weights", "most", "numbers"])]:
            self.assertEqual(list(inspect.signature(getattr(mosts, name)).parameters), parameters, name)


if __name__ == "__main__":
    unittest.main()
