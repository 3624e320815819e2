import inspect
import random
import unittest
from fractions import Fraction

from clackrow import runs
from clackrow.errors import ClackError, NoEnd, Shut, Together, TooMany
from clackrow.rows import energy_of, is_row, push_of
from clackrow.runs import comings, ended, gone, is_quiet, turned
from tests.things import (NOUGHT, OPEN, OTHER_KINDS, box, chance_row, high_at, low_at, pair, row_of, stepped, value_of,
                          wall)

GREAT = 10 ** 60
# One ball that knocks at 1/2, 3/2, 5/2 ..
KNOCKER = row_of(("1/2", 1))
# On a line more than 400 groups come.
LIVELY = row_of((2, 9, 1000), (14, 7, 1), (20, 7, 1000), (35, -8, 1), (42, -3, 1000), (52, -5, 1), (62, -6, 1000))
# Three of unlike weights that part: gone back to they are refused.
PARTING = row_of((5, -1, 1), (5, "1/3", 2), (5, 2, 3))
THREE_AT_9 = [(9, -1, 1), (9, "1/3", 2), (9, 2, 3)]


def rows_by_chance(seed, times):
    source = random.Random(seed)
    for many in range(1, 9):
        for weights in [[1], [7], [1, 2], [1, 2, 3, 1000]]:
            for bottoms in [(1,), (1, 2, 3), (1, 7, 11)]:
                for time in range(times):
                    row, walls = chance_row(source, many, weights, bottoms=bottoms)
                    yield row, walls, Fraction(source.randint(0, 30), source.choice([1, 2, 3, 7]))


def told(deed, *things):
    """What is told, or the refusal's class and moment."""
    try:
        return deed(*things)
    except (Shut, Together) as refusal:
        return (type(refusal), refusal.moment)
    except ClackError as refusal:
        return type(refusal)


REFUSALS = {"shut": Shut, "together": Together}


def as_told(stepped_so):
    """What comings and gone tell or how they refuse, by the stepper."""
    if stepped_so[0] == "gone":
        return stepped_so[1], stepped_so[3:]
    refusal = TooMany if stepped_so[0] == "many" else (REFUSALS[stepped_so[0]], stepped_so[1])
    return refusal, refusal


def backwards(row, walls, t):
    """Row and walls from which, after t, the beginning that was handed in is come back to."""
    return turned(*gone(row, walls, t))


def first_moments(row, walls, many):
    """The moments of so many groups, each at its own."""
    moments = [value_of(one[0]) for one in stepped(row, walls, Fraction(10 ** 6), most=many)[1]]
    assert moments == sorted(set(moments)), "several groups come at one moment"
    return moments


class Comings(unittest.TestCase):
    def test_at_between_and_behind_comings(self):
        row, walls = row_of((0, 1, 1), (4, -1, 3)), box(-1, 6)
        first = [((2, 1), 0, 1, "")]
        # Behind it the speeds are -2 and 0.
        second = first + [((7, 2), 0, 0, "low")]
        # Then 2 and 0 meet at 2: -1 and 1.
        third = second + [((5, 1), 0, 1, "")]
        fourth = third + [((8, 1), 0, 0, "low")]
        for t, some in [(0, []), ("3/2", []), ("199999/100000", []), (2, first), ("5/2", first), ("7/2", second),
                        (4, second), (5, third), ("79/10", third), (8, fourth), ("89/10", fourth)]:
            self.assertEqual(comings(row, walls, pair(t)), some, t)

    def test_gone_at_between_and_behind_comings(self):
        row, walls = row_of((0, 1, 1), (4, -1, 3)), box(-1, 6)
        for t, then in [
                (0, row), (1, row_of((1, 1, 1), (3, -1, 3))), (2, row_of((2, -2, 1), (2, 0, 3))),
                (3, row_of((0, -2, 1), (2, 0, 3))), ("7/2", row_of((-1, 2, 1), (2, 0, 3))),
                (5, row_of((2, -1, 1), (2, 1, 3))), (6, row_of((1, -1, 1), (3, 1, 3)))]:
            self.assertEqual(gone(row, walls, pair(t)), (then, walls), t)

    def test_groups_of_one_moment_from_left_to_right(self):
        row, walls = row_of((1, -1), (3, 1)), box(0, 4)
        self.assertEqual(comings(row, walls, (5, 1)), [
            ((1, 1), 0, 0, "low"), ((1, 1), 1, 1, "high"), ((3, 1), 0, 1, ""),
            ((5, 1), 0, 0, "low"), ((5, 1), 1, 1, "high")])

    def test_walls_go_on(self):
        row, walls = row_of((3, 0, 5)), (wall(0, 1), wall(9, "1/2"))
        self.assertEqual(gone(row, walls, (4, 1)), (row_of((5, 2, 5)), (wall(4, 1), wall(11, "1/2"))))
        self.assertEqual(comings(row, walls, (8, 1)), [((3, 1), 0, 0, "low"), ((8, 1), 0, 0, "high")])
        self.assertEqual(gone(row, walls, (8, 1)), (row_of((13, -1, 5)), (wall(8, 1), wall(13, "1/2"))))

    def test_nothing_comes(self):
        for row, walls in [(row_of((0, 5, 2)), OPEN), (row_of((0, 0), (1, 0)), box(0, 1)),
                           (row_of((0, -1), (0, 1, 5)), OPEN)]:
            self.assertEqual(comings(row, walls, (GREAT, 1)), [])
            self.assertEqual(gone(row, walls, NOUGHT), (row, walls))
        self.assertEqual(gone(row_of((0, 5, 2)), OPEN, (GREAT, 7)), (row_of((0 + Fraction(5 * GREAT, 7), 5, 2)), OPEN))

    def test_by_chance_against_stepping(self):
        kinds = {"gone": 0, "shut": 0, "together": 0, "many": 0}
        for row, walls, t in rows_by_chance(41, 5):
            so = stepped(row, walls, t)
            kinds[so[0]] += 1
            some, then = as_told(so)
            self.assertEqual(told(comings, row, walls, pair(t)), some, (row, walls, t))
            self.assertEqual(told(gone, row, walls, pair(t)), then, (row, walls, t))
        self.assertTrue(kinds["gone"] > 300 and min(kinds["shut"], kinds["together"]) > 15, kinds)

    def test_in_two_parts_as_in_one(self):
        parts = 0
        for row, walls, t in rows_by_chance(42, 2):
            whole = told(gone, row, walls, pair(t))
            some = told(comings, row, walls, pair(t))
            if not isinstance(some, list):
                continue
            for first in [t / 3] + [value_of(one[0]) for one in some[:2]]:
                parts += 1
                then = gone(row, walls, pair(first))
                self.assertTrue(is_row(then[1], then[0]))
                self.assertEqual(gone(*then, pair(t - first)), whole)
                ahead, later = comings(row, walls, pair(first)), comings(*then, pair(t - first))
                later = [(pair(value_of(one[0]) + first),) + one[1:] for one in later]
                self.assertEqual(ahead + later, some)
        self.assertGreater(parts, 200)

    def test_push_and_energy_on_a_line(self):
        for row, walls, t in rows_by_chance(43, 2):
            then = told(gone, row, OPEN, pair(t))
            if isinstance(then[0], tuple):
                self.assertEqual((push_of(then[0]), energy_of(then[0])), (push_of(row), energy_of(row)))

    def test_great_and_small_fractions(self):
        row = row_of((Fraction(1, GREAT), Fraction(GREAT, 7), 999), (Fraction(2, GREAT - 1), Fraction(3, GREAT - 3), 1000),
                     (Fraction(GREAT, 3), -GREAT, 1))
        walls = box(-Fraction(1, 7 ** 60), Fraction(GREAT, 2))
        so = stepped(row, walls, Fraction(GREAT, GREAT - 9))
        self.assertGreater(len(so[1]), 4)
        self.assertEqual(comings(row, walls, (GREAT, GREAT - 9)), so[1])
        self.assertEqual(gone(row, walls, (GREAT, GREAT - 9)), so[3:])

    def test_what_is_told_may_be_handed_in_again(self):
        row, walls = row_of((1, "7/3", 7), (3, -1, 11), (5, "1/2", 13), (8, "-9/7", 999)), box(0, 10)
        some = comings(row, walls, (60, 1))
        self.assertGreater(len(some), 100)
        last = some[-1][0]
        then = gone(row, walls, last)
        self.assertEqual(comings(row, walls, last), some)
        self.assertTrue(is_row(then[1], then[0]))
        self.assertEqual(backwards(*turned(*then), last), (row, walls))
        self.assertEqual(comings(*turned(*then), last)[-1][1:], some[0][1:])


class Refused(unittest.TestCase):
    def test_shut_at_the_moment_and_behind_it(self):
        walls = (wall(0, 1), wall(10, -1))
        for row in [row_of((5, 0)), row_of((1, 0)), row_of((2, 1, 1), (3, 0, 2), (4, -1, 3))]:
            for t in [5, "51/10", GREAT]:
                self.assertEqual(told(comings, row, walls, pair(t)), (Shut, (5, 1)))
                self.assertEqual(told(gone, row, walls, pair(t)), (Shut, (5, 1)))
        self.assertEqual(comings(row_of((5, 0)), walls, pair("4999/1000")), [])
        self.assertEqual(gone(row_of((5, 0)), walls, (4, 1)), (row_of((5, 0)), (wall(4, 1), wall(6, -1))))

    def test_shut_ahead_of_together(self):
        row, walls = row_of((2, 1, 1), (3, 0, 2), (4, -1, 3)), (wall(0, "1/9"), wall(10, "-1/9"))
        self.assertEqual(told(comings, row, walls, (1, 1)), (Together, (1, 1)))
        self.assertEqual(told(comings, row, walls, (44, 1)), (Together, (1, 1)))
        self.assertEqual(told(comings, row, walls, (45, 1)), (Shut, (45, 1)))
        self.assertEqual(told(gone, row, walls, (45, 1)), (Shut, (45, 1)))

    def test_shut_ahead_of_too_many(self):
        walls = (wall(0, 1), wall(10, -1))
        row = row_of((5, 1000))
        self.assertIs(told(comings, row, walls, pair("49/10")), TooMany)
        self.assertEqual(told(comings, row, walls, (5, 1)), (Shut, (5, 1)))

    def test_together_from_the_beginning_on(self):
        walls, row = box(0, 20), backwards(PARTING, box(0, 20), (70, 1))[0]
        self.assertGreater(len(comings(row, walls, (69, 1))), 20)
        for t in [70, 71, GREAT]:
            self.assertEqual(told(comings, row, walls, pair(t)), (Together, (70, 1)))
            self.assertEqual(told(gone, row, walls, pair(t)), (Together, (70, 1)))
        self.assertEqual(len(comings(row, walls, pair("699999/10000"))), len(comings(PARTING, walls, (70, 1))))

    def test_too_many_behind_400_and_not_with_just_400(self):
        some = comings(KNOCKER, box(0, 1), pair("799/2"))
        self.assertEqual(len(some), 400)
        self.assertEqual(some[-1], ((799, 2), 0, 0, "low"))
        self.assertEqual(len(comings(KNOCKER, box(0, 1), pair("4004999/10000"))), 400)
        self.assertEqual(gone(KNOCKER, box(0, 1), (400, 1)), (KNOCKER, box(0, 1)))
        for t in ["801/2", 401, GREAT]:
            self.assertIs(told(comings, KNOCKER, box(0, 1), pair(t)), TooMany)
            self.assertIs(told(gone, KNOCKER, box(0, 1), pair(t)), TooMany)

    def test_too_many_where_one_moment_brings_several(self):
        row, walls = row_of((1, -1), (3, 1)), box(0, 4)
        self.assertEqual(len(comings(row, walls, pair("5329/10"))), 399)
        self.assertIs(told(comings, row, walls, (533, 1)), TooMany)

    def test_together_up_to_the_moment_of_the_401st_group(self):
        walls = box(0, 20)
        moments = first_moments(PARTING, walls, 403)
        # Just 400 groups come ahead of the three, that are the 401st.
        t = (moments[399] + moments[400]) / 2
        row = backwards(PARTING, walls, pair(t))[0]
        self.assertEqual(told(comings, row, walls, pair(t)), (Together, pair(t)))
        self.assertEqual(told(gone, row, walls, pair(t + 1)), (Together, pair(t)))
        self.assertEqual(len(comings(row, walls, pair(t - Fraction(1, 10 ** 9)))), 400)
        # With 401 ahead the last of these is the 401st, at a moment ahead of the three.
        t = (moments[400] + moments[401]) / 2
        half = moments[200]
        row = turned(*gone(*gone(PARTING, walls, pair(half)), pair(t - half)))[0]
        self.assertIs(told(comings, row, walls, pair(t)), TooMany)
        self.assertIs(told(gone, row, walls, pair(t + 1)), TooMany)

    def test_together_at_the_very_moment_of_the_401st_group(self):
        # Gone back to, one at a wall, two that meet and three that are refused come at one moment.
        start, walls = row_of((0, 1, 1), (4, -1, 2), (4, 2, 3)) + row_of(*THREE_AT_9), box(0, 20)
        moments = first_moments(start, walls, 400)
        for many in [398, 399]:
            t = (moments[many - 1] + moments[many]) / 2
            row = backwards(start, walls, pair(t))[0]
            self.assertEqual(len(comings(row, walls, pair(t - Fraction(1, 10 ** 9)))), many)
            self.assertEqual(told(comings, row, walls, pair(t)), (Together, pair(t)))


class Quiet(unittest.TestCase):
    def test_quiet(self):
        for row, walls in [
                (row_of((0, 5, 2)), OPEN), (row_of((0, -1, 2), (0, 1, 3)), OPEN), (row_of((0, 1), (4, 1)), OPEN),
                (row_of((0, 0), (1, 0)), box(0, 1)), (row_of((0, 0)), low_at(-3)), (row_of((0, 1)), low_at(0)),
                (row_of((0, 1)), low_at(-1, 1)), (row_of((0, 1)), (wall(-1, "1/2"), wall(9, 1)))]:
            self.assertIs(is_quiet(row, walls), True, (row, walls))

    def test_not_quiet(self):
        for row, walls in [
                (row_of((0, 1), (4, "1/2")), OPEN), (row_of((0, 0), (1, 0)), (wall(-1), wall(2, Fraction(-1, GREAT)))),
                (row_of((0, -1)), low_at(-GREAT)), (row_of((0, 1)), high_at(GREAT)), (KNOCKER, box(0, 1)),
                # Three that are refused have come all the same.
                (row_of((0, 1, 1), (1, 0, 2), (2, -1, 3)), OPEN)]:
            self.assertIs(is_quiet(row, walls), False, (row, walls))

    def test_never_where_the_walls_would_meet(self):
        walls = (wall(0, 1), wall(10, -1))
        for row in [row_of((5, 0)), row_of((0, 1)), row_of((10, -1)), row_of((0, 1), (10, -1)), row_of((4, 0))]:
            self.assertIs(is_quiet(row, walls), False)

    def test_of_anything(self):
        row = row_of((0, 5, 2))
        for thing in OTHER_KINDS + [list(row), row[0], (row,), (row[0][:2],), (row[0] + (1,),), ((NOUGHT, NOUGHT, "1"),)]:
            self.assertIs(is_quiet(thing, OPEN), False, thing)
        for thing in OTHER_KINDS + [list(OPEN), (None,), (None, None, None), (None, NOUGHT), (NOUGHT, None)]:
            self.assertIs(is_quiet(row, thing), False, thing)
            self.assertIs(is_quiet(thing, thing), False, thing)

    def test_by_chance_it_goes_with_the_end(self):
        for row, walls, t in rows_by_chance(44, 3):
            self.assertIs(is_quiet(row, walls), stepped(row, walls, Fraction(10 ** 12), most=0)[:2] == ("gone", []))


class Ended(unittest.TestCase):
    def test_on_a_line(self):
        row = row_of((0, 2, 1), (1, 0, 1), (4, -1, 1))
        some = [((1, 2), 0, 1, ""), ((4, 3), 1, 2, ""), ((3, 1), 0, 1, "")]
        self.assertEqual(ended(row, OPEN), (some, row_of((1, -1), (1, 0), (6, 2)), OPEN))

    def test_with_one_wall(self):
        row = row_of((1, -1, 1), (2, -1, 3))
        some = [((1, 1), 0, 0, "low"), ((3, 2), 0, 1, ""), ((7, 4), 0, 0, "low")]
        self.assertEqual(ended(row, low_at(0))[0][:2], some[:2])
        so = stepped(row, low_at(0), None)
        self.assertEqual(ended(row, low_at(0)), (so[1],) + so[3:])
        row = row_of((1, 2, 1))
        self.assertEqual(ended(row, high_at(5, 1)), ([((4, 1), 0, 0, "high")], row_of((9, 0)), high_at(9, 1)))

    def test_where_none_comes(self):
        for row, walls in [(row_of((0, -1, 2), (0, 1, 3)), OPEN), (row_of((3, "1/7", 9)), low_at(1, "-5/3"))]:
            self.assertEqual(ended(row, walls), ([], row, walls))

    def test_by_chance_against_stepping(self):
        ends = 0
        for row, walls, t in rows_by_chance(45, 5):
            if walls[0] is not None and walls[1] is not None:
                self.assertIs(told(ended, row, walls), NoEnd)
                continue
            so = stepped(row, walls, None)
            if so[0] == "gone":
                ends += 1
                self.assertEqual(ended(row, walls), (so[1],) + so[3:])
                self.assertTrue(is_quiet(so[3], so[4]))
            else:
                self.assertEqual(told(ended, row, walls), as_told(so)[0])
        self.assertGreater(ends, 150)

    def test_no_end_ahead(self):
        for row, walls in [(KNOCKER, box(0, 1)), (row_of((1, 0)), box(0, 5)),
                           (row_of((5, 0)), (wall(0, 1), wall(10, -1))),
                           (row_of((2, 1, 1), (3, 0, 2), (4, -1, 3)), (wall(0, -1), wall(10, 1)))]:
            self.assertIs(told(ended, row, walls), NoEnd)

    def test_together(self):
        row = row_of((2, 1, 1), (3, 0, 2), (4, -1, 3))
        for walls in [OPEN, low_at(0), high_at(9, 3)]:
            self.assertEqual(told(ended, row, walls), (Together, (1, 1)))

    def test_too_many(self):
        self.assertIs(told(ended, LIVELY, OPEN), TooMany)
        self.assertIs(told(ended, LIVELY, low_at(-1)), TooMany)
        so = stepped(LIVELY, OPEN, None, most=10 ** 6)
        self.assertGreater(len(so[1]), 400)
        # From the moment on behind which just 400 are left all are told.
        t = so[1][-401][0]
        self.assertEqual(len([one for one in so[1] if one[0] == t]), 1)
        row = gone(LIVELY, OPEN, t)[0]
        self.assertEqual(len(ended(row, OPEN)[0]), 400)
        self.assertEqual([one[1:] for one in ended(row, OPEN)[0]], [one[1:] for one in so[1][-400:]])
        self.assertEqual(ended(row, OPEN)[1:], so[3:])


class Turned(unittest.TestCase):
    def test_plainly(self):
        row, walls = row_of((1, 2, 3), (4, "-1/2", 5), (6, 0, 1)), (wall(0, "1/3"), wall(9, -2))
        self.assertEqual(turned(row, walls), (row_of((1, -2, 3), (4, "1/2", 5), (6, 0, 1)),
                                              (wall(0, "-1/3"), wall(9, 2))))
        self.assertEqual(turned(row_of((1, 2)), OPEN), (row_of((1, -2)), OPEN))
        self.assertEqual(turned(row_of((1, 2)), low_at(0, 5)), (row_of((1, -2)), low_at(0, -5)))
        self.assertEqual(turned(row_of((1, 2)), high_at(3, 5)), (row_of((1, -2)), high_at(3, -5)))

    def test_two_that_stand_together(self):
        # Speeds 1 and -1 of weights 1 and 3 come together: 1 - 2 * 3 * 2 / 4 and -1 + 2 * 1 * 2 / 4.
        self.assertEqual(turned(row_of((0, -1, 1), (0, 1, 3)), OPEN), (row_of((0, -2, 1), (0, 0, 3)), OPEN))
        self.assertEqual(turned(row_of((0, -1, 2), (0, 5, 2)), OPEN), (row_of((0, -5, 2), (0, 1, 2)), OPEN))

    def test_more_that_stand_together(self):
        self.assertEqual(turned(row_of((0, -1), (0, 2), (0, 3), (1, 4)), OPEN),
                         (row_of((0, -3), (0, -2), (0, 1), (1, -4)), OPEN))
        for weights in [(1, 1, 2), (1, 2, 1), (2, 1, 1)]:
            row = row_of(*[(0, k, weight) for k, weight in enumerate(weights)])
            self.assertEqual(told(turned, row, OPEN), (Together, (0, 1)))
        self.assertEqual(told(turned, PARTING, box(0, 20)), (Together, (0, 1)))

    def test_one_at_a_wall(self):
        self.assertEqual(turned(row_of((0, 3)), low_at(0)), (row_of((0, 3)), low_at(0)))
        self.assertEqual(turned(row_of((0, -3)), high_at(0)), (row_of((0, -3)), high_at(0)))
        self.assertEqual(turned(row_of((0, 3, 9)), low_at(0, 1)), (row_of((0, 1, 9)), low_at(0, -1)))
        self.assertEqual(turned(row_of((0, -3, 9)), high_at(0, 1)), (row_of((0, -5, 9)), high_at(0, -1)))

    def test_one_that_rests_at_a_wall(self):
        for speed in [0, 3, "-1/2"]:
            opposite = -Fraction(speed)
            self.assertEqual(turned(row_of((0, speed)), low_at(0, speed)),
                             (row_of((0, opposite)), low_at(0, opposite)))
            self.assertEqual(turned(row_of((0, speed)), high_at(0, speed)),
                             (row_of((0, opposite)), high_at(0, opposite)))

    def test_several_at_a_wall(self):
        row = row_of((0, 1, 2), (0, 3, 2), (0, 4, 2))
        self.assertEqual(turned(row, low_at(0, 1)), (row_of((0, -1, 2), (0, 1, 2), (0, 2, 2)), low_at(0, -1)))
        row = row_of((0, -4, 2), (0, -3, 2), (0, -1, 2))
        self.assertEqual(turned(row, high_at(0, 0)), (row_of((0, -4, 2), (0, -3, 2), (0, -1, 2)), high_at(0)))
        for row, walls in [(row_of((0, 1, 2), (0, 3, 1)), low_at(0)), (row_of((0, 0, 2), (0, 3, 1)), low_at(0)),
                           (row_of((0, -3, 1), (0, -1, 2)), high_at(0)), (row_of((0, -3, 1), (0, 0, 2)), high_at(0))]:
            self.assertEqual(told(turned, row, walls), (Together, (0, 1)))

    def test_two_groups(self):
        row = row_of((0, 1, 1), (3, -1, 1), (3, 1, 3), (9, -2, 7))
        self.assertEqual(turned(row, box(0, 9)), (row_of((0, 1, 1), (3, -2, 1), (3, 0, 3), (9, -2, 7)), box(0, 9)))

    def test_a_row_between_the_walls_and_turned_again(self):
        good = 0
        for row, walls, t in rows_by_chance(46, 4):
            then = told(turned, row, walls)
            if then[0] is Together:
                self.assertEqual(then[1], (0, 1))
                continue
            good += 1
            self.assertTrue(is_row(then[1], then[0]), (row, walls))
            self.assertEqual([one[::2] for one in then[0]], [one[::2] for one in row])
            self.assertEqual(turned(*then), (row, walls))
        self.assertGreater(good, 200)

    def test_back_again(self):
        good = 0
        for row, walls, t in rows_by_chance(47, 5):
            t += 1
            if isinstance(told(comings, row, walls, pair(t)), list):
                back = told(gone, *backwards(row, walls, pair(t)), pair(t))
                if back[0] is Together:
                    # More than the two of 3.2, of unlike weights, stood together as it began.
                    self.assertEqual(back, (Together, pair(t)))
                    self.assertEqual(told(turned, row, walls), (Together, (0, 1)))
                    continue
                good += 1
                self.assertEqual(turned(*back), (row, walls))
                for one in comings(row, walls, pair(t))[:3]:
                    then = backwards(row, walls, one[0])
                    self.assertEqual(backwards(*then, one[0]), (row, walls))
        self.assertGreater(good, 250)


class Kinds(unittest.TestCase):
    def test_kinds(self):
        row, walls = row_of((1, -1), (3, 1)), box(0, 4)
        some = comings(row, walls, (5, 1))
        self.assertIs(type(some), list)
        self.assertEqual([type(part) for part in some[0]], [tuple, int, int, str])
        for then in [gone(row, walls, (5, 1)), turned(row, walls), ended(row, OPEN), gone(row, OPEN, NOUGHT)]:
            self.assertIs(type(then), tuple)
            self.assertIs(type(then[-1]), tuple)
            self.assertIs(type(then[-2]), tuple)
        self.assertIs(type(ended(row, OPEN)[0]), list)
        self.assertIs(is_quiet(row, walls), False)

    def test_told_lists_are_the_askers_own(self):
        row, walls = row_of((1, 2), (3, 1)), low_at(0)
        for deed in [lambda: comings(row, walls, (5, 1)), lambda: ended(row, walls)[0]]:
            kept = list(deed())
            self.assertEqual(kept, [((2, 1), 0, 1, "")])
            deed().append("more")
            deed().clear()
            changed = deed()
            changed[0] = None
            self.assertEqual(deed(), kept)

    def test_what_is_handed_in_stays(self):
        row, walls = row_of((1, -2, 3), (3, 1, 4)), (wall(0, "1/2"), None)
        for deed in [lambda: comings(row, walls, (9, 1)), lambda: gone(row, walls, (9, 1)), lambda: ended(row, walls),
                     lambda: turned(row, walls), lambda: is_quiet(row, walls)]:
            self.assertEqual(deed(), deed())
            self.assertEqual((row, walls), (row_of((1, -2, 3), (3, 1, 4)), (wall(0, "1/2"), None)))

    def test_arguments_by_name(self):
        row = row_of((1, -2))
        self.assertEqual(comings(t=(1, 1), walls=low_at(0), row=row), [((1, 2), 0, 0, "low")])
        self.assertEqual(gone(t=(1, 1), walls=low_at(0), row=row), (row_of((1, 2)), low_at(0)))
        self.assertEqual(is_quiet(walls=low_at(0), row=row), False)
        self.assertEqual(ended(walls=low_at(0), row=row), ([((1, 2), 0, 0, "low")], row_of((0, 2)), low_at(0)))
        self.assertEqual(turned(walls=low_at(0), row=row), (row_of((1, 2)), low_at(0)))
        names = {"comings": ["row", "walls", "t"], "gone": ["row", "walls", "t"], "is_quiet": ["row", "walls"],
                 "ended": ["row", "walls"], "turned": ["row", "walls"]}
        for name, parameters in names.items():
            self.assertEqual(list(inspect.signature(getattr(runs, name)).parameters), parameters, name)


if __name__ == "__main__":
    unittest.main()
