import inspect
import itertools
import random
import unittest
from fractions import Fraction
from unittest import mock

from clackrow import speeds as speeds_file
from clackrow.errors import TooMany
from clackrow.runs import gone
from clackrow.speeds import lets_speeds, speeds_of
from tests.things import box, chance_row, high_at, low_at, pair, stepped, value_of

GREAT = 10 ** 60


def pairs(*values):
    return tuple([pair(value) for value in values])


def values(speeds):
    return tuple([value_of(speed) for speed in speeds])


def after(weights, now, deed):
    """The speeds, as fractions, behind a deed."""
    now = list(now)
    if deed == ("low",):
        now[0] = -now[0]
    elif deed == ("high",):
        now[-1] = -now[-1]
    else:
        word, i = deed
        (m, n), (v, w) = weights[i:i + 2], now[i:i + 2]
        now[i] = v - 2 * n * (v - w) / (m + n)
        now[i + 1] = w + 2 * m * (v - w) / (m + n)
    return tuple(now)


def all_deeds(weights, low, high):
    return [("low",)] * low + [("meet", i) for i in range(len(weights) - 1)] + [("high",)] * high


def far(weights, low, high, speeds, most=200):
    """How many deeds each of all speeds is away, by spreading out; None where they are more than most."""
    found = {values(speeds): 0}
    edge = list(found)
    while edge:
        edge = list(dict.fromkeys([after(weights, now, deed) for now in edge for deed in all_deeds(weights, low, high)]))
        edge = [now for now in edge if now not in found]
        found.update({now: max(found.values()) + 1 for now in edge})
        if len(found) > most:
            return None
    return found


class Told(unittest.TestCase):
    def check(self, weights, low, high, speeds):
        """Holds what is told to what spreading out tells; how many they are."""
        found = far(weights, low, high, speeds)
        if found is None:
            self.assertRaises(TooMany, speeds_of, weights, low, high, speeds)
            return None
        told = speeds_of(weights, low, high, speeds)
        self.assertEqual([values(some) for some, way in told], sorted(found))
        for some, way in told:
            self.assertEqual(some, pairs(*values(some)))
            self.assertEqual(len(way), found[values(some)], (weights, some))
            self.assertTrue(all([deed in all_deeds(weights, low, high) for deed in way]), way)
            now = values(speeds)
            for deed in way:
                now = after(weights, now, deed)
            self.assertEqual(now, values(some))
        alone = [some for some, way in told]
        self.assertIs(lets_speeds(weights, low, high, speeds, alone), True)
        return len(told)

    def test_one_ball(self):
        self.assertEqual(speeds_of((7,), False, False, pairs(3)), [(pairs(3), [])])
        self.assertEqual(speeds_of((7,), True, False, pairs(3)), [(pairs(-3), [("low",)]), (pairs(3), [])])
        self.assertEqual(speeds_of((7,), False, True, pairs(-3)), [(pairs(-3), []), (pairs(3), [("high",)])])
        self.assertEqual(len(speeds_of((7,), True, True, pairs(3))), 2)
        self.assertEqual(speeds_of((7,), True, True, pairs(0)), [(pairs(0), [])])

    def test_two_balls(self):
        self.assertEqual(speeds_of((1, 1), False, False, pairs(3, 5)),
                         [(pairs(3, 5), []), (pairs(5, 3), [("meet", 0)])])
        self.assertEqual(speeds_of((1, 3), False, False, pairs(2, 0)),
                         [(pairs(-1, 1), [("meet", 0)]), (pairs(2, 0), [])])
        self.assertEqual(speeds_of((1, 3), False, False, pairs(4, 4)), [(pairs(4, 4), [])])
        self.assertEqual(speeds_of((1, 1), True, False, pairs(0, 2)),
                         [(pairs(-2, 0), [("meet", 0), ("low",)]), (pairs(0, -2), [("meet", 0), ("low",), ("meet", 0)]),
                          (pairs(0, 2), []), (pairs(2, 0), [("meet", 0)])])

    def test_alike_weights(self):
        for many, low, high, all_in_all in [(3, 0, 0, 6), (4, 0, 0, 24), (5, 0, 0, 120), (2, 1, 0, 8), (2, 1, 1, 8),
                                            (3, 1, 0, 48), (3, 0, 1, 48), (3, 1, 1, 48)]:
            speeds = pairs(*[k + 1 for k in range(many)])
            self.assertEqual(self.check((9,) * many, bool(low), bool(high), speeds), all_in_all)

    def test_speeds_alike(self):
        self.assertEqual(self.check((2, 2, 2, 2), False, False, pairs(1, 1, 2, 2)), 6)
        self.assertEqual(self.check((2, 2, 2, 2, 2), True, True, pairs(0, 0, 0, 0, 0)), 1)
        self.assertEqual(self.check((2, 2, 2, 2, 2), True, True, pairs(0, 0, 1, 0, 0)), 10)

    def test_unlike_weights(self):
        self.assertEqual(self.check((1, 3), True, False, pairs(1, 7)), 12)
        self.assertEqual(self.check((3, 1), False, True, pairs(1, 7)), 12)
        self.assertEqual(self.check((2, 1, 2), False, False, pairs(1, 5, 11)), None)
        self.assertEqual(self.check((1, 2, 6), False, False, pairs(0, 1, 5)), 6)

    def test_alike_weights_and_all_sorts_of_speeds(self):
        for many, low, high in [(5, False, False), (4, True, False), (4, False, True), (4, True, True)]:
            counts = {}
            for speeds in itertools.combinations_with_replacement(range(4), many):
                counts[len(far((1,) * many, low, high, pairs(*speeds), 10 ** 4))] = speeds
            for all_in_all, speeds in counts.items():
                self.assertEqual(self.check((1,) * many, low, high, pairs(*speeds)),
                                 all_in_all if all_in_all <= 200 else None)

    def test_unlike_weights_with_an_end(self):
        self.assertEqual(self.check((6, 2, 1), True, False, pairs(1, 2, 7)), 24)
        self.assertEqual(self.check((3, 1, 2), True, False, pairs(1, 2, 7)), 48)
        self.assertEqual(self.check((3, 1, 2, 6), True, False, pairs(0, 0, 0, 1)), 24)
        self.assertEqual(self.check((6, 2, 1, 3), False, True, pairs(0, 0, 1, 0)), 96)
        self.assertEqual(self.check((3, 1, 2, 6), True, False, pairs(1, 2, 7, 9)), None)

    def test_endless_ones(self):
        for weights, low, high in [((1, 2), True, False), ((1, 2), False, True), ((1, 2), True, True),
                                   ((2, 1, 2), False, False), ((1000, 1, 999), False, False),
                                   ((1, 2, 3, 4, 5), True, True)]:
            speeds = pairs(*[Fraction(k * k + 1, k + 1) for k in range(len(weights))])
            self.assertRaises(TooMany, speeds_of, weights, low, high, speeds)

    def test_great_and_small_fractions(self):
        near = Fraction(1, GREAT)
        self.assertEqual(self.check((1, 1, 1), False, False, pairs(1, 1 + near, 1 - near)), 6)
        self.assertEqual(self.check((1, 1), True, True, pairs(GREAT, Fraction(GREAT - 1, GREAT))), 8)
        self.assertEqual(self.check((1000, 3000 // 9), False, False, pairs(GREAT, near)), 2)

    def test_by_chance(self):
        source = random.Random(1101)
        kinds = {True: 0, False: 0}
        for k in range(250):
            many = source.randint(1, 5)
            weights = tuple([source.choice([1, 1, 1, 2, 3]) for k in range(many)])
            if source.random() < 0.4:
                weights = (5,) * many
            speeds = pairs(*[Fraction(source.randint(-2, 2), source.choice([1, 1, 2])) for k in range(many)])
            told = self.check(weights, source.random() < 0.5, source.random() < 0.5, speeds)
            kinds[told is None] += 1
        self.assertGreater(min(kinds.values()), 30, kinds)

    def test_runs_keep_to_them(self):
        source = random.Random(1102)
        asked = 0
        for k in range(400):
            weights = source.choice([(1, 1, 1), (1, 3), (3, 1), (1,), (2, 2), (1, 2, 6)])
            walls = source.choice([(None, None), low_at(-4), high_at(4), box(-4, 4)])
            row = chance_row(source, len(weights), [1], walls)[0]
            row = tuple([ball[:2] + (weight,) for ball, weight in zip(row, weights)])
            low, high = [one is not None for one in walls]
            try:
                told = speeds_of(weights, low, high, tuple([ball[1] for ball in row]))
            except TooMany:
                continue
            for t in [1, 3, 10]:
                if stepped(row, walls, Fraction(t))[0] == "gone":
                    then = gone(row, walls, (t, 1))[0]
                    self.assertIn(tuple([ball[1] for ball in then]), [some for some, way in told])
                    asked += 1
        self.assertGreater(asked, 300)


class Bound(unittest.TestCase):
    # No speeds are known of which just 200 come: 192 are the nearest below, 240 the nearest above.
    BELOW = ((1,) * 4, True, False, pairs(0, 1, 2, 3))
    ABOVE = ((1,) * 5, True, True, pairs(0, 0, 1, 1, 2))

    def test_below_and_above(self):
        self.assertEqual(len(speeds_of(*self.BELOW)), 192)
        self.assertEqual(len(far(*self.ABOVE, 10 ** 4)), 240)
        self.assertRaises(TooMany, speeds_of, *self.ABOVE)

    def test_just_as_many_as_the_bound_are_told(self):
        self.assertEqual(speeds_file.MOST_SPEEDS, 200)
        with mock.patch.object(speeds_file, "MOST_SPEEDS", 192):
            self.assertEqual(len(speeds_of(*self.BELOW)), 192)
        with mock.patch.object(speeds_file, "MOST_SPEEDS", 191):
            self.assertRaises(TooMany, speeds_of, *self.BELOW)


class Judge(unittest.TestCase):
    WEIGHTS = (1, 1, 1)
    SPEEDS = pairs(0, 1, 3)

    def judged(self, some, low=False, high=False):
        """What the judge says of a list, and of the tuple of it."""
        said = lets_speeds(self.WEIGHTS, low, high, self.SPEEDS, some)
        self.assertIs(lets_speeds(self.WEIGHTS, low, high, self.SPEEDS, tuple(some)), said)
        return said

    def told(self, low=False, high=False, speeds=None):
        return [some for some, way in speeds_of(self.WEIGHTS, low, high, speeds or self.SPEEDS)]

    def test_with_walls(self):
        for low, high in [(False, False), (True, False), (False, True), (True, True)]:
            told = self.told(low, high)
            self.assertIs(self.judged(told, low, high), True)
            for k in range(len(told)):
                self.assertIs(self.judged(told[:k] + told[k + 1:], low, high), False)

    def test_a_wall_more_asks_for_more(self):
        told = self.told()
        self.assertIs(self.judged(told, True, False), False)
        self.assertIs(self.judged(told, False, True), False)
        self.assertIs(self.judged(self.told(True, False)), True)

    def test_each_wall_is_asked_for(self):
        weights, speeds = (1, 2), pairs(1, 1)
        self.assertIs(lets_speeds(weights, False, False, speeds, [speeds]), True)
        self.assertIs(lets_speeds(weights, True, False, speeds, [speeds]), False)
        self.assertIs(lets_speeds(weights, False, True, speeds, [speeds]), False)
        one = pairs(2)
        self.assertIs(lets_speeds((1,), False, False, one, [one]), True)
        self.assertIs(lets_speeds((1,), True, False, one, [one]), False)
        self.assertIs(lets_speeds((1,), False, True, one, [one]), False)
        self.assertIs(lets_speeds((1,), True, True, one, [one, pairs(-2)]), True)

    def test_another_order_and_twice(self):
        told = self.told()
        self.assertIs(self.judged(told[::-1]), True)
        self.assertIs(self.judged(told[3:] + told[:3]), True)
        self.assertIs(self.judged(told + told), True)
        self.assertIs(self.judged(told[:1] * 5 + told), True)
        self.assertIs(self.judged(told[:-1] + told[:1]), False)

    def test_others_with_all_to_which_they_lead(self):
        told = self.told()
        others = self.told(speeds=pairs(0, 2, 7))
        self.assertIs(self.judged(told + others), True)
        self.assertIs(self.judged(others + told), True)
        self.assertIs(self.judged(told + [pairs(5, 5, 5)]), True)

    def test_others_that_lead_elsewhere(self):
        told = self.told()
        others = self.told(speeds=pairs(0, 2, 7))
        for k in range(len(others)):
            self.assertIs(self.judged(told + others[:k] + others[k + 1:]), False)
        self.assertIs(self.judged(told + [pairs(5, 5, 4)]), False)
        self.assertIs(self.judged([pairs(0, 0, 1)] + told), False)

    def test_without_the_told_one(self):
        self.assertIs(self.judged([]), False)
        self.assertIs(self.judged(self.told(speeds=pairs(0, 2, 7))), False)
        self.assertIs(self.judged([pairs(5, 5, 5)]), False)

    def test_of_endless_ones_no_list_is_let_by(self):
        speeds = pairs(1, 2)
        some = [speeds]
        for k in range(60):
            for deed in [("meet", 0), ("low",)]:
                some.append(pairs(*after((1, 2), values(some[-1]), deed)))
        self.assertIs(lets_speeds((1, 2), True, False, speeds, some), False)

    def test_more_than_200_may_be_let_by(self):
        weights = (1,) * 5
        speeds = pairs(0, 0, 1, 1, 2)
        some = [pairs(*now) for now in far(weights, True, True, speeds, 10 ** 4)]
        self.assertEqual(len(some), 240)
        self.assertIs(lets_speeds(weights, True, True, speeds, some), True)
        self.assertIs(lets_speeds(weights, True, True, speeds, some[:-1]), False)


class Kinds(unittest.TestCase):
    def test_kinds(self):
        told = speeds_of((1, 1), True, False, pairs(1, 2))
        self.assertEqual(type(told), list)
        for one in told:
            self.assertEqual([type(one)] + [type(part) for part in one], [tuple, tuple, list])
            self.assertTrue(all([type(deed) is tuple for deed in one[1]]))

    def test_told_lists_are_the_askers_own(self):
        for low in [False, True]:
            told = speeds_of((1, 1), low, False, pairs(1, 2))
            kept = [(some, list(way)) for some, way in told]
            for some, way in told:
                way.append(("high",))
            self.assertEqual([len(way) for some, way in told], [len(way) + 1 for some, way in kept])
            told.clear()
            self.assertEqual(speeds_of((1, 1), low, False, pairs(1, 2)), kept)

    def test_nothing_handed_in_is_changed(self):
        some = [pairs(2, 1), pairs(1, 2)]
        self.assertIs(lets_speeds((1, 1), False, False, pairs(1, 2), some), True)
        self.assertEqual(some, [pairs(2, 1), pairs(1, 2)])

    def test_arguments_by_name(self):
        self.assertEqual(speeds_of(speeds=pairs(3), high=False, low=True, weights=(7,)),
                         [(pairs(-3), [("low",)]), (pairs(3), [])])
        self.assertIs(lets_speeds(some=[pairs(3)], speeds=pairs(3), high=False, low=False, weights=(7,)), True)
        for name, parameters in [("speeds_of", ["weights", "low", "high", "speeds"]),
                                 ("lets_speeds", ["weights", "low", "high", "speeds", "some"])]:
            self.assertEqual(list(inspect.signature(getattr(speeds_file, name)).parameters), parameters, name)


if __name__ == "__main__":
    unittest.main()
