import inspect
import random
import unittest
from fractions import Fraction

from clackrow import whens
from clackrow.errors import NoBall, NoPlace, NotEven, TooMany
from clackrow.rounds import round_of
from clackrow.whens import lets_never, when
from tests.things import NOUGHT, OPEN, box, chance_row, high_at, low_at, moments_at, pair, row_of, stepped, value_of, wall

GREAT = 10 ** 60
FAR = 10 ** 30
BOX = box(0, 10)
# In a round of 20 two lines pass the place 3, together 1000 times; the last ball is never there.
BUSY = row_of(("1/11", 499), ("1/7", 1), (9, 0))
PASSED = pair(3 - Fraction(1, 7))


def looked(row, walls, place, t):
    """The moments looked at, by stepping each line alone."""
    found = round_of(row, walls)
    moments = [t]
    if found is not None:
        lasting = value_of(found[0])
        for one in row:
            if one[1] != NOUGHT:
                alone = stepped((one,), walls, t, most=10 ** 6)[3]
                moments += [t + wait for wait in moments_at(alone, walls, 0, place, lasting) if 0 < wait < lasting]
    return sorted(set(moments))


def first_moment(row, walls, k, place, t):
    """The first moment from t on at which ball k is at the place, by stepping; None where it never is."""
    found = round_of(row, walls)
    then = stepped(row, walls, t, most=10 ** 6)[3]
    lasting = Fraction(1) if found is None else value_of(found[0])
    waits = moments_at(then, walls, k, place, lasting)
    return t + waits[0] if waits else None


def asked_by_chance(seed, times, most):
    source = random.Random(seed)
    for many in range(1, most + 1):
        for bottoms in [(1,), (1, 2)]:
            for time in range(times):
                row, walls = chance_row(source, many, [3], box(-4, 4), bottoms=bottoms)
                found = round_of(row, walls)
                if found is not None and value_of(found[0]) > 50:
                    continue
                place = source.choice([-4, 4, source.choice(row)[0], Fraction(source.randint(-12, 12), 3)])
                place = value_of(place) if isinstance(place, tuple) else Fraction(place)
                yield row, walls, source.randrange(many), place, Fraction(source.randint(0, 24), source.choice([1, 2, 3]))


class When(unittest.TestCase):
    def test_one_ball(self):
        row = row_of((3, 1))
        for place, t, moment in [
                (5, 0, 2), (5, 1, 2), (5, 2, 2), (5, "21/10", 12), (5, 12, 12), (5, 13, 22), (3, 0, 0), (3, "1/9", 14),
                (10, 0, 7), (10, 7, 7), (10, 8, 27), (0, 0, 17), (0, 17, 17), (0, 18, 37), (5, 20 * FAR, 20 * FAR + 2),
                (5, 20 * FAR + 2, 20 * FAR + 2), (5, 20 * FAR + 3, 20 * FAR + 12)]:
            self.assertEqual(when(row, BOX, 0, pair(place), pair(t)), ("at", pair(moment)), (place, t))

    def test_balls_that_begin_at_a_wall(self):
        self.assertEqual(when(row_of((0, 1)), BOX, 0, (0, 1), NOUGHT), ("at", (0, 1)))
        self.assertEqual(when(row_of((0, 1)), BOX, 0, (0, 1), (1, 1)), ("at", (20, 1)))
        self.assertEqual(when(row_of((10, -1)), BOX, 0, (10, 1), (1, 1)), ("at", (20, 1)))

    def test_no_line_moves(self):
        row = row_of((0, 0), (4, 0), (10, 0))
        for t in [0, "1/3", FAR]:
            for k, place in [(0, 0), (1, 4), (2, 10)]:
                self.assertEqual(when(row, BOX, k, pair(place), pair(t)), ("at", pair(t)))
            for k, place in [(0, 4), (1, 0), (1, 5), (2, 4)]:
                self.assertEqual(when(row, BOX, k, pair(place), pair(t)), ("never", [pair(t)]))

    def test_never_and_its_moments(self):
        row = row_of((2, 0), (8, 1))
        self.assertEqual(when(row, BOX, 0, (5, 1), NOUGHT), ("never", [(0, 1), (7, 1), (17, 1)]))
        self.assertEqual(when(row, BOX, 0, (5, 1), (7, 1)), ("never", [(7, 1), (17, 1)]))
        self.assertEqual(when(row, BOX, 0, (5, 1), (8, 1)), ("never", [(8, 1), (17, 1), (27, 1)]))
        self.assertEqual(when(row, BOX, 0, (10, 1), (1, 1)), ("never", [(1, 1), (2, 1)]))
        self.assertEqual(when(row, BOX, 1, (0, 1), (1, 1)), ("never", [(1, 1), (12, 1)]))
        self.assertEqual(when(row, BOX, 1, (5, 1), NOUGHT), ("at", (7, 1)))
        self.assertEqual(when(row, BOX, 0, (5, 1), (20 * FAR, 1)),
                         ("never", [(20 * FAR, 1), (20 * FAR + 7, 1), (20 * FAR + 17, 1)]))

    def test_a_ball_that_stays_a_while(self):
        # One line rests at 2; the other passes there at 10 and, on its way back, at 14.
        row = row_of((2, 0), (8, 1))
        for t, moment in [(0, 0), (1, 1), (10, 10), ("21/2", 14), ("27/2", 14), (14, 14), (19, 19), (31, 34)]:
            self.assertEqual(when(row, BOX, 0, (2, 1), pair(t)), ("at", pair(moment)), t)
        for t, moment in [(0, 10), (10, 10), (11, 11), (14, 14), ("29/2", 30)]:
            self.assertEqual(when(row, BOX, 1, (2, 1), pair(t)), ("at", pair(moment)), t)

    def test_each_moment_once(self):
        row = row_of((1, 0), (4, 1), (6, -1))
        # Both lines that move pass 5 at 1, and again at 11.
        self.assertEqual(when(row, BOX, 0, (5, 1), NOUGHT), ("never", [(0, 1), (1, 1)]))
        self.assertEqual(round_of(row, BOX)[0], (10, 1))
        self.assertEqual(when(row, BOX, 0, (5, 1), (1, 1)), ("never", [(1, 1)]))

    def test_by_chance_against_stepping(self):
        told = {"at": 0, "never": 0}
        for row, walls, k, place, t in asked_by_chance(81, 14, 8):
            moment = first_moment(row, walls, k, place, t)
            answer = when(row, walls, k, pair(place), pair(t))
            told[answer[0]] += 1
            if moment is None:
                self.assertEqual(answer, ("never", [pair(one) for one in looked(row, walls, place, t)]))
            else:
                self.assertEqual(answer, ("at", pair(moment)), (row, k, place, t))
        self.assertGreater(min(told.values()), 50)

    def test_great_and_small_fractions(self):
        walls = box(Fraction(-1, GREAT), Fraction(1, GREAT - 1))
        trip = 2 * (Fraction(1, GREAT) + Fraction(1, GREAT - 1))
        row = row_of((0, Fraction(GREAT, 7)))
        told = when(row, walls, 0, pair(Fraction(1, GREAT + 1)), pair(7 * trip / GREAT * FAR))
        self.assertEqual(told, ("at", pair(7 * trip / GREAT * FAR + Fraction(7, GREAT * (GREAT + 1)))))


class TooManyMoments(unittest.TestCase):
    def test_just_1000(self):
        told = when(BUSY, BOX, 2, (3, 1), PASSED)
        self.assertEqual(told[0], "never")
        self.assertEqual(len(told[1]), 1000)
        self.assertEqual([value_of(one) for one in told[1]], looked(BUSY, BOX, Fraction(3), value_of(PASSED)))
        self.assertIs(lets_never(BUSY, BOX, 2, (3, 1), PASSED, told[1]), True)
        self.assertEqual(when(BUSY, BOX, 0, (3, 1), PASSED)[0], "at")

    def test_more_than_1000(self):
        for t in [NOUGHT, pair(value_of(PASSED) + Fraction(1, 1000)), (20 * FAR, 1)]:
            for k in [0, 1, 2]:
                self.assertRaises(TooMany, when, BUSY, BOX, k, (3, 1), t)
                self.assertRaises(TooMany, lets_never, BUSY, BOX, k, (3, 1), t, [])

    def test_also_where_the_ball_is_there_at_once(self):
        self.assertRaises(TooMany, when, BUSY, BOX, 2, (9, 1), NOUGHT)
        self.assertRaises(TooMany, when, row_of((3, 1), (4, 1000)), BOX, 0, (3, 1), NOUGHT)

    def test_far_more(self):
        row = row_of((3, 1), (4, Fraction(GREAT, GREAT - 1)))
        for k in [0, 1]:
            self.assertRaises(TooMany, when, row, BOX, k, (3, 1), NOUGHT)
        self.assertRaises(TooMany, when, row_of((3, 1), (4, GREAT)), BOX, 0, (10, 1), NOUGHT)

    def test_one_line_alone(self):
        # At a wall a line of pace 999 is 999 times in a round, and one of pace 1 once.
        row = row_of((1, 1), ("8/3", 999), (9, 0))
        self.assertEqual(len(looked(row, BOX, Fraction(0), Fraction(0))), 1001)
        self.assertRaises(TooMany, when, row, BOX, 2, (0, 1), NOUGHT)
        self.assertEqual(len(when(row, BOX, 2, (0, 1), (19, 1))[1]), 1000)
        row = row_of((1, 1), ("8/3", 1000), (9, 0))
        self.assertRaises(TooMany, when, row, BOX, 2, (0, 1), (19, 1))
        # One of pace 1000 alone, as the other is there with it.
        row = row_of((0, 1), (0, 1000), (9, 0))
        self.assertEqual(len(when(row, BOX, 2, (0, 1), NOUGHT)[1]), 1000)
        self.assertRaises(TooMany, when, row, BOX, 2, (0, 1), (1, 99))


class Refused(unittest.TestCase):
    def assert_both(self, refusal, *things):
        self.assertRaises(refusal, when, *things)
        self.assertRaises(refusal, lets_never, *things, [])

    def test_not_even(self):
        even = row_of((3, 1), (4, 2))
        for row, walls in [(row_of((3, 1, 1), (4, 2, 2)), BOX), (even, OPEN), (even, low_at(0)), (even, high_at(9)),
                           (even, (wall(0), wall(9, 1))), (even, (wall(0, 1), wall(9)))]:
            for k, place in [(0, 5), (9, 5), (-1, 99), (0, 99)]:
                self.assert_both(NotEven, row, walls, k, pair(place), NOUGHT)

    def test_no_ball(self):
        for k in [-1, 2, -2, GREAT, -GREAT]:
            for place in [5, 99, -1]:
                self.assert_both(NoBall, row_of((3, 1), (4, 2)), BOX, k, pair(place), NOUGHT)
                self.assert_both(NoBall, row_of((3, 1), (4, 2000)), BOX, k, pair(place), NOUGHT)

    def test_no_place(self):
        for place in [-1, 11, Fraction(-1, GREAT), 10 + Fraction(1, GREAT), GREAT]:
            self.assert_both(NoPlace, row_of((3, 1), (4, 2)), BOX, 1, pair(place), NOUGHT)
            self.assert_both(NoPlace, BUSY, BOX, 1, pair(place), NOUGHT)
        for place in [0, 10, Fraction(1, 3)]:
            self.assertEqual(when(row_of((3, 1)), BOX, 0, pair(place), NOUGHT)[0], "at")


class LetsNever(unittest.TestCase):
    def test_the_told_list(self):
        row = row_of((2, 0), (8, 1))
        moments = [(0, 1), (7, 1), (17, 1)]
        self.assertIs(lets_never(row, BOX, 0, (5, 1), NOUGHT, moments), True)
        self.assertIs(lets_never(row, BOX, 0, (5, 1), NOUGHT, tuple(moments)), True)
        self.assertIs(lets_never(row_of((2, 0)), BOX, 0, (5, 1), (4, 7), [(4, 7)]), True)

    def test_other_lists(self):
        row = row_of((2, 0), (8, 1))
        good = [(0, 1), (7, 1), (17, 1)]
        others = [[], good[::-1], good + good, good + [(20, 1)], good + [(27, 1)], [good[0]] + good, [(-3, 1)] + good,
                  [good[1], good[0], good[2]], [good[0], good[2], good[1]], good + [good[2]], [(0, 1), (7, 1), (18, 1)],
                  [(0, 1), (15, 2), (17, 1)], [(1, 1), (7, 1), (17, 1)], [(0, 1), (3, 1), (7, 1), (17, 1)]]
        others += [good[:k] + good[k + 1:] for k in range(3)]
        for moments in others:
            self.assertIs(lets_never(row, BOX, 0, (5, 1), NOUGHT, moments), False, moments)
            self.assertIs(lets_never(row, BOX, 0, (5, 1), NOUGHT, tuple(moments)), False, moments)

    def test_where_the_ball_is_there(self):
        row = row_of((2, 0), (8, 1))
        self.assertIs(lets_never(row, BOX, 1, (5, 1), NOUGHT, [(0, 1), (7, 1), (17, 1)]), False)
        self.assertIs(lets_never(row, BOX, 1, (5, 1), NOUGHT, []), False)
        self.assertIs(lets_never(row, BOX, 1, (8, 1), NOUGHT, [(0, 1)]), False)

    def test_by_chance(self):
        source = random.Random(82)
        let = 0
        for row, walls, k, place, t in asked_by_chance(83, 14, 5):
            moments = looked(row, walls, place, t)
            never = first_moment(row, walls, k, place, t) is None
            let += never
            self.assertIs(lets_never(row, walls, k, pair(place), pair(t), [pair(one) for one in moments]), never)
            at = source.randrange(len(moments))
            for other in [moments[:at] + moments[at + 1:], moments[:at] + [moments[at] + Fraction(1, 99)] + moments[at + 1:],
                          moments + [moments[-1] + Fraction(1, 99)], moments + [moments[at]]]:
                self.assertIs(lets_never(row, walls, k, pair(place), pair(t), [pair(one) for one in other]), False)
        self.assertGreater(let, 30)


class Kinds(unittest.TestCase):
    def test_kinds(self):
        row = row_of((2, 0), (8, 1))
        self.assertIs(type(when(row, BOX, 1, (5, 1), NOUGHT)), tuple)
        self.assertIs(type(when(row, BOX, 0, (5, 1), NOUGHT)), tuple)
        self.assertIs(type(when(row, BOX, 0, (5, 1), NOUGHT)[1]), list)

    def test_a_told_list_is_the_askers_own(self):
        row = row_of((2, 0), (8, 1))
        told = when(row, BOX, 0, (5, 1), NOUGHT)
        told[1].append((99, 1))
        told[1][0] = None
        self.assertEqual(when(row, BOX, 0, (5, 1), NOUGHT), ("never", [(0, 1), (7, 1), (17, 1)]))

    def test_what_is_handed_in_stays(self):
        moments = [(0, 1), (7, 1), (17, 1)]
        lets_never(row_of((2, 0), (8, 1)), BOX, 0, (5, 1), NOUGHT, moments)
        self.assertEqual(moments, [(0, 1), (7, 1), (17, 1)])

    def test_arguments_by_name(self):
        row = row_of((3, 1))
        self.assertEqual(when(t=(3, 1), place=(5, 1), k=0, walls=BOX, row=row), ("at", (12, 1)))
        self.assertIs(lets_never(moments=[], t=(3, 1), place=(5, 1), k=0, walls=BOX, row=row), False)
        names = {"when": ["row", "walls", "k", "place", "t"],
                 "lets_never": ["row", "walls", "k", "place", "t", "moments"]}
        for name, parameters in names.items():
            self.assertEqual(list(inspect.signature(getattr(whens, name)).parameters), parameters, name)


if __name__ == "__main__":
    unittest.main()
