import inspect
import random
import unittest
from fractions import Fraction
from math import gcd

from clackrow import seen
from clackrow.runs import comings, gone
from clackrow.seen import does_all, lets_ring, weights_of
from tests.things import OPEN, chance_row, pair, value_of

GREAT = 10 ** 60


def sighting(i, j, v, w, weight_i, weight_j):
    """What is seen where balls of these weights and speeds meet."""
    v, w = Fraction(v), Fraction(w)
    nearing = 2 * (v - w) / (weight_i + weight_j)
    return (i, j, pair(v), pair(w), pair(v - weight_j * nearing), pair(w + weight_i * nearing))


def raw(i, j, *speeds):
    return (i, j) + tuple([pair(speed) for speed in speeds])


def does(weights, one):
    """Whether weights do a sighting, as 10.1 writes it."""
    i, j = one[:2]
    v, w, v2, w2 = [value_of(speed) for speed in one[2:]]
    return v != w and w2 - v2 == v - w and weights[i] * (v - v2) == weights[j] * (w2 - w)


def parts_of(n, sightings):
    """The parts, as sets of balls."""
    parts = [{ball} for ball in range(n)]
    for one in sightings:
        joined = set()
        for part in [part for part in parts if part & set(one[:2])]:
            parts.remove(part)
            joined |= part
        parts.append(joined)
    return parts


def is_ring(sightings, ring):
    """Whether this is a ring, step by step, as 10.1 writes it."""
    if not ring:
        return False
    ball, product = None, Fraction(1)
    begin = None
    for number, way in ring:
        if number not in range(len(sightings)) or way not in (0, 1):
            return False
        i, j = sightings[number][:2]
        v, w, v2, w2 = [value_of(speed) for speed in sightings[number][2:]]
        if v == w or w2 - v2 != v - w or v == v2 or w2 == w or (v - v2) / (w2 - w) < 0:
            return False
        first, last = (i, j) if way == 0 else (j, i)
        if ball is None:
            begin = first
        elif ball != first:
            return False
        ball = last
        share = (v - v2) / (w2 - w)
        product *= share if way == 0 else 1 / share
    return ball == begin and product != 1


def chance_sightings(source, n, many, weights=None, wrong=0):
    """So many sightings by chance, of these weights; wrong ones have weights of their own."""
    weights = weights or [source.randint(1, 9) for k in range(n)]
    some = []
    for k in range(many):
        i, j = source.sample(range(n), 2)
        v, w = [Fraction(speed, source.choice([1, 2, 3])) for speed in source.sample(range(-9, 10), 2)]
        own = weights if k < many - wrong else [source.randint(1, 3) for each in range(n)]
        some.append(sighting(i, j, v if v != w else v + 1, w, own[i], own[j]))
    source.shuffle(some)
    return weights, some


class Weights(unittest.TestCase):
    def test_one_sighting(self):
        self.assertEqual(weights_of(2, [sighting(0, 1, 1, 0, 3, 5)]), ("weights", (3, 5)))
        self.assertEqual(weights_of(2, [sighting(1, 0, 1, 0, 5, 3)]), ("weights", (3, 5)))
        self.assertEqual(weights_of(2, [raw(0, 1, 1, 0, 0, 1)]), ("weights", (1, 1)))
        self.assertEqual(weights_of(2, [raw(0, 1, 0, 1, 1, 0)]), ("weights", (1, 1)))
        self.assertEqual(weights_of(2, [sighting(0, 1, -2, Fraction(7, 3), 6, 10)]), ("weights", (3, 5)))

    def test_whichever_was_faster(self):
        for v, w in [(1, 0), (0, 1), (-3, -4), (-4, -3), (5, -5), (-5, 5)]:
            self.assertEqual(weights_of(3, [sighting(2, 0, v, w, 4, 9)]), ("weights", (9, 1, 4)), (v, w))

    def test_balls_that_no_sighting_has(self):
        self.assertEqual(weights_of(1, []), ("weights", (1,)))
        self.assertEqual(weights_of(8, []), ("weights", (1,) * 8))
        self.assertEqual(weights_of(5, [sighting(3, 1, 1, 0, 12, 18)]), ("weights", (1, 3, 1, 2, 1)))

    def test_several_parts(self):
        some = [sighting(0, 5, 1, 0, 10, 15), sighting(1, 2, 1, 0, 4, 6), sighting(2, 3, 1, 0, 6, 9),
                sighting(5, 7, 2, 3, 15, 20)]
        self.assertEqual(weights_of(8, some), ("weights", (2, 4, 6, 9, 1, 3, 1, 4)))

    def test_the_least_whole_numbers_of_a_part(self):
        some = [sighting(0, 1, 1, 0, 2, 3), sighting(1, 2, 1, 0, 5, 7), sighting(2, 3, 1, 0, 7, 1)]
        self.assertEqual(weights_of(4, some), ("weights", (10, 15, 21, 3)))
        some = [sighting(0, 1, 1, 0, 6, 4), sighting(0, 2, 1, 0, 6, 10)]
        self.assertEqual(weights_of(3, some), ("weights", (3, 2, 5)))

    def test_great_weights(self):
        self.assertEqual(weights_of(2, [sighting(0, 1, 1, 0, GREAT, 1)]), ("weights", (GREAT, 1)))
        some = [sighting(k, k + 1, 1, 0, 1, 1000) for k in range(7)]
        self.assertEqual(weights_of(8, some), ("weights", tuple([1000 ** k for k in range(8)])))
        some = [sighting(k, k + 1, Fraction(1, GREAT), 0, GREAT - 1, GREAT) for k in range(7)]
        kind, weights = weights_of(8, some)
        self.assertEqual((kind, weights[0], weights[7]), ("weights", (GREAT - 1) ** 7, GREAT ** 7))

    def test_sightings_by_chance(self):
        source = random.Random(1001)
        for k in range(300):
            n = source.randint(2, 8)
            own, some = chance_sightings(source, n, source.choice([0, 1, 2, 3, 5, 8, 40]))
            kind, weights = weights_of(n, some)
            self.assertEqual((kind, type(weights), len(weights)), ("weights", tuple, n))
            self.assertTrue(all([does(weights, one) for one in some]))
            self.assertIs(does_all(weights, some), True)
            self.assertIs(does_all(tuple(own), some), True)
            for part in parts_of(n, some):
                self.assertEqual(gcd(*[weights[ball] for ball in part]), 1)
                self.assertEqual(len(set([Fraction(weights[ball], own[ball]) for ball in part])), 1)

    def test_sightings_of_runs(self):
        source = random.Random(1002)
        told = 0
        while told < 60:
            row = chance_row(source, 4, [1, 2, 3, 6, 10], OPEN)[0]
            some = []
            now = row
            before = (0, 1)
            try:
                meetings = comings(row, OPEN, (50, 1))
            except ValueError:
                continue
            if len(set([one[0] for one in meetings])) < len(meetings) or any([one[2] > one[1] + 1 for one in meetings]):
                continue
            for moment, first, last, where in meetings:
                then = gone(now, OPEN, pair(value_of(moment) - value_of(before)))[0]
                ahead, back = (first, last) if source.random() < 0.5 else (last, first)
                some.append((ahead, back, now[ahead][1], now[back][1], then[ahead][1], then[back][1]))
                now, before = then, moment
            kind, weights = weights_of(4, some)
            self.assertEqual(kind, "weights")
            for part in parts_of(4, some):
                self.assertEqual(len(set([Fraction(weights[ball], row[ball][2]) for ball in part])), 1)
            told += len(some) > 2


class Odd(unittest.TestCase):
    GOOD = sighting(0, 1, 1, 0, 1, 2)

    def test_speeds_alike_ahead(self):
        for v2, w2 in [(3, 3), (4, 2), (0, 6), (3, 4), (5, 5)]:
            self.assertEqual(weights_of(2, [raw(0, 1, 3, 3, v2, w2)]), ("odd", 0))

    def test_they_part_otherwise_than_they_came(self):
        for v2, w2 in [(0, 2), (-1, 3), (1, 0), (1, 2), (0, 0), (2, 1)]:
            self.assertEqual(weights_of(2, [raw(0, 1, 1, 0, v2, w2)]), ("odd", 0), (v2, w2))

    def test_weights_below_one(self):
        # The first doesn't change, or the second, or both are moved to one side.
        for v, w, v2, w2 in [(1, 0, 1, 2), (1, 0, -1, 0), (1, 0, 2, 3), (1, 0, -2, -1), (0, 1, 0, -1), (0, 1, 2, 1),
                             (0, 1, 3, 2), (0, 1, -1, -2)]:
            self.assertEqual(weights_of(2, [raw(0, 1, v, w, v2, w2)]), ("odd", 0), (v2, w2))

    def test_just_within(self):
        near = Fraction(1, GREAT)
        self.assertEqual(weights_of(2, [raw(0, 1, 1, 0, 1 - near, 2 - near)])[0], "weights")
        self.assertEqual(weights_of(2, [raw(0, 1, 1, 0, near - 1, near)])[0], "weights")
        self.assertEqual(weights_of(2, [raw(0, 1, 1, 0, 1 + near, 2 + near)]), ("odd", 0))
        self.assertEqual(weights_of(2, [raw(0, 1, 1, 0, -1 - near, -near)]), ("odd", 0))

    def test_the_first_is_told(self):
        bad = raw(0, 1, 1, 0, 1, 2)
        self.assertEqual(weights_of(2, [self.GOOD, bad, bad]), ("odd", 1))
        self.assertEqual(weights_of(2, [self.GOOD] * 39 + [bad]), ("odd", 39))
        self.assertEqual(weights_of(3, [self.GOOD, bad, raw(1, 2, 1, 1, 0, 0)]), ("odd", 1))
        self.assertEqual(weights_of(3, [raw(1, 2, 1, 1, 0, 0), bad]), ("odd", 0))

    def test_ahead_of_a_ring(self):
        some = [sighting(0, 1, 1, 0, 1, 2), sighting(0, 1, 1, 0, 1, 3), raw(0, 1, 1, 1, 1, 1)]
        self.assertEqual(weights_of(2, some), ("odd", 2))


class Rings(unittest.TestCase):
    def check(self, n, some):
        kind, ring = weights_of(n, some)
        self.assertEqual((kind, type(ring)), ("ring", list))
        self.assertTrue(is_ring(some, ring), (some, ring))
        self.assertTrue(all([type(step) is tuple and len(step) == 2 for step in ring]))
        self.assertIs(lets_ring(n, some, ring), True)
        self.assertIs(lets_ring(n, some, tuple(ring)), True)
        return ring

    def test_two_sightings_of_two_balls(self):
        self.assertEqual(len(self.check(2, [sighting(0, 1, 1, 0, 1, 2), sighting(0, 1, 1, 0, 1, 3)])), 2)
        self.assertEqual(len(self.check(2, [sighting(0, 1, 1, 0, 1, 2), sighting(1, 0, 1, 0, 1, 2)])), 2)

    def test_three_balls_either_way_about(self):
        for ways in range(8):
            some = []
            for k, (i, j, m, n) in enumerate([(0, 1, 1, 2), (1, 2, 1, 2), (2, 0, 1, 2)]):
                some.append(sighting(j, i, 1, 0, n, m) if ways >> k & 1 else sighting(i, j, 1, 0, m, n))
            self.assertEqual(len(self.check(3, some)), 3)

    def test_a_ring_behind_a_tail(self):
        some = [sighting(0, 1, 1, 0, 1, 2), sighting(1, 2, 1, 0, 1, 2), sighting(2, 3, 1, 0, 1, 2),
                sighting(3, 1, 1, 0, 1, 2)]
        self.assertEqual(sorted([number for number, way in self.check(4, some)]), [1, 2, 3])

    def test_in_a_later_part(self):
        some = [sighting(0, 1, 1, 0, 1, 2), sighting(5, 6, 1, 0, 1, 2), sighting(6, 7, 1, 0, 1, 2),
                sighting(7, 5, 1, 0, 1, 2)]
        self.check(8, some)

    def test_a_ring_of_eight(self):
        some = [sighting(k, (k + 1) % 8, 1, 0, 1, 1) for k in range(7)] + [sighting(7, 0, 1, 0, 1, 2)]
        self.assertEqual(len(self.check(8, some)), 8)

    def test_by_chance(self):
        source = random.Random(1003)
        kinds = {"ring": 0, "weights": 0}
        for k in range(400):
            n = source.randint(2, 8)
            own, some = chance_sightings(source, n, source.choice([2, 3, 5, 9, 40]), wrong=source.choice([1, 1, 2]))
            kind, told = weights_of(n, some)
            kinds[kind] += 1
            if kind == "ring":
                self.check(n, some)
            else:
                self.assertTrue(all([does(told, one) for one in some]))
                self.assertIs(does_all(told, some), True)
        self.assertTrue(all([many > 50 for many in kinds.values()]), kinds)


class DoesAll(unittest.TestCase):
    def test_multiples_do_as_well(self):
        some = [sighting(0, 1, 1, 0, 2, 3)]
        for weights, good in [((2, 3), True), ((4, 6), True), ((2 * GREAT, 3 * GREAT), True), ((3, 2), False),
                              ((2, 4), False), ((1, 1), False), ((2000, 3000), True)]:
            self.assertIs(does_all(weights, some), good, weights)

    def test_without_sightings(self):
        self.assertIs(does_all((1, 7, 3), []), True)
        self.assertIs(does_all((1,), ()), True)

    def test_weights_below_one(self):
        some = [sighting(0, 1, 1, 0, 2, 3)]
        for weights in [(0, 0), (-2, -3), (0, 3), (2, 0), (2, -3)]:
            self.assertIs(does_all(weights, some), False, weights)
            self.assertIs(does_all(weights, []), False, weights)
        self.assertIs(does_all((2, 3, 0), some), False)
        self.assertIs(does_all((2, 3, -1), some), False)
        self.assertIs(does_all((2, 3, 1), some), True)

    def test_odd_sightings_are_done_by_none(self):
        for one in [raw(0, 1, 3, 3, 3, 3), raw(0, 1, 3, 3, 2, 4), raw(0, 1, 1, 0, 0, 2), raw(0, 1, 1, 0, 1, 2),
                    raw(0, 1, 1, 0, -1, 0), raw(0, 1, 0, 0, 0, 0), raw(0, 1, 1, 0, 1, 0)]:
            for weights in [(1, 1), (1, 2), (5, 3)]:
                self.assertIs(does_all(weights, [one]), False, one)
                self.assertIs(does_all(weights + (1,), [sighting(1, 2, 1, 0, weights[1], 1), one]), False, one)

    def test_by_chance(self):
        source = random.Random(1004)
        kinds = [0, 0]
        for k in range(600):
            own, some = chance_sightings(source, 3, source.randint(1, 3), [source.randint(1, 2) for k in range(3)],
                                         wrong=source.choice([0, 0, 1]))
            weights = tuple([source.choice([0, 1, 1, 1, 2, 2, 4]) for k in range(3)])
            good = min(weights) >= 1 and all([does(weights, one) for one in some])
            self.assertIs(does_all(weights, tuple(some)), good)
            kinds[good] += 1
        self.assertGreater(min(kinds), 50)


class RingJudge(unittest.TestCase):
    SOME = [sighting(0, 1, 1, 0, 1, 2), sighting(1, 2, 1, 0, 1, 2), sighting(2, 0, 1, 0, 1, 2),
            sighting(0, 1, 3, 0, 1, 2), raw(0, 1, 1, 1, 0, 0), raw(1, 0, 1, 0, 1, 2), sighting(3, 4, 1, 0, 1, 2)]

    def test_rings_that_are_some(self):
        for ring in [[(0, 0), (1, 0), (2, 0)], [(1, 0), (2, 0), (0, 0)], [(2, 1), (1, 1), (0, 1)],
                     [(3, 0), (1, 0), (2, 0)], [(0, 0), (1, 0), (2, 0), (3, 0), (1, 0), (2, 0)],
                     [(0, 0), (0, 1), (0, 0), (1, 0), (2, 0)]]:
            self.assertIs(lets_ring(5, self.SOME, ring), True, ring)
            self.assertIs(lets_ring(5, tuple(self.SOME), tuple(ring)), True, ring)

    def test_empty(self):
        self.assertIs(lets_ring(5, self.SOME, []), False)
        self.assertIs(lets_ring(5, self.SOME, ()), False)
        self.assertIs(lets_ring(1, [], []), False)

    def test_broken(self):
        for ring in [[(0, 0)], [(0, 0), (1, 0)], [(0, 0), (2, 0), (1, 0)], [(0, 0), (1, 0), (2, 1)],
                     [(0, 0), (1, 0), (6, 0)], [(0, 1), (1, 0), (2, 0)], [(6, 0), (0, 0), (1, 0), (2, 0)],
                     [(0, 0), (1, 0), (2, 0), (6, 0)], [(0, 0), (1, 0), (2, 0), (0, 0)], [(0, 0), (1, 1), (2, 0)]]:
            self.assertIs(lets_ring(5, self.SOME, ring), False, ring)

    def test_numbers_of_no_sighting(self):
        for number in [7, 8, -1, -7, -5, GREAT, -GREAT]:
            for ring in [[(number, 0), (1, 0), (2, 0)], [(0, 0), (number, 0), (2, 0)], [(0, 0), (1, 0), (number, 0)]]:
                self.assertIs(lets_ring(5, self.SOME, ring), False, ring)
        self.assertIs(lets_ring(5, self.SOME[:3], [(0, 0), (1, 0), (-1, 0)]), False)

    def test_ways_that_are_none(self):
        for way in [-1, 2, -2, 3, GREAT]:
            for ring in [[(0, way), (1, 0), (2, 0)], [(0, 0), (1, way), (2, 0)], [(0, 0), (1, 0), (2, way)]]:
                self.assertIs(lets_ring(5, self.SOME, ring), False, ring)

    def test_products_of_one(self):
        for ring in [[(0, 0), (0, 1)], [(0, 0), (3, 1)], [(0, 1), (3, 0)],
                     [(0, 0), (1, 0), (2, 0), (2, 1), (1, 1), (0, 1)]]:
            self.assertIs(lets_ring(5, self.SOME, ring), False, ring)
        some = [sighting(0, 1, 1, 0, 1, 2), sighting(1, 2, 1, 0, 2, 3), sighting(2, 0, 1, 0, 3, 1)]
        self.assertIs(lets_ring(3, some, [(0, 0), (1, 0), (2, 0)]), False)

    def test_sightings_that_no_weights_do(self):
        for ring in [[(4, 0), (1, 0), (2, 0)], [(4, 0), (0, 1)], [(5, 1), (1, 0), (2, 0)], [(0, 0), (5, 0)],
                     [(4, 0), (4, 1)], [(0, 0), (1, 0), (2, 0), (4, 0), (0, 1)]]:
            self.assertIs(lets_ring(5, self.SOME, ring), False, ring)

    def test_any_rings_by_chance(self):
        source = random.Random(1005)
        kinds = [0, 0]
        for k in range(6000):
            n = source.randint(2, 3)
            own, some = chance_sightings(source, n, 4, wrong=source.choice([0, 1, 2]))
            ring = [(source.randint(0, 3), source.randint(0, 1)) for step in range(source.randint(1, 4))]
            good = is_ring(some, ring)
            self.assertIs(lets_ring(n, some, ring), good, (some, ring))
            # A ring shows that no weights do all.
            if good:
                self.assertEqual(weights_of(n, some)[0], "ring")
            kinds[good] += 1
        self.assertGreater(min(kinds), 100)

    def test_a_long_ring(self):
        self.assertIs(lets_ring(3, self.SOME[:3], [(0, 0), (1, 0), (2, 0)] * 60), True)
        self.assertIs(lets_ring(3, self.SOME[:3], [(0, 0), (0, 1)] * 90), False)


class Kinds(unittest.TestCase):
    def test_kinds(self):
        for some in [RingJudge.SOME[:3], RingJudge.SOME[:2], RingJudge.SOME, []]:
            self.assertEqual(type(weights_of(5, some)), tuple)
        self.assertEqual(type(weights_of(5, RingJudge.SOME)[1]), int)

    def test_a_told_list_is_the_askers_own(self):
        some = RingJudge.SOME[:3]
        told = weights_of(3, some)
        kept = list(told[1])
        told[1].clear()
        self.assertEqual(weights_of(3, some), ("ring", kept))

    def test_nothing_handed_in_is_changed(self):
        some = list(RingJudge.SOME)
        ring = [(0, 0), (1, 0), (2, 0)]
        weights_of(5, some)
        does_all((1, 1, 1, 1, 1), some)
        lets_ring(5, some, ring)
        self.assertEqual((some, ring), (RingJudge.SOME, [(0, 0), (1, 0), (2, 0)]))

    def test_a_tuple_of_sightings(self):
        for some in [RingJudge.SOME[:3], RingJudge.SOME[:2], RingJudge.SOME, []]:
            self.assertEqual(weights_of(5, tuple(some)), weights_of(5, some))

    def test_arguments_by_name(self):
        some = [sighting(0, 1, 1, 0, 2, 3)]
        self.assertEqual(weights_of(sightings=some, n=2), ("weights", (2, 3)))
        self.assertIs(does_all(sightings=some, weights=(2, 3)), True)
        self.assertIs(lets_ring(ring=[(0, 0)], sightings=some, n=2), False)
        for name, parameters in [("weights_of", ["n", "sightings"]), ("does_all", ["weights", "sightings"]),
                                 ("lets_ring", ["n", "sightings", "ring"])]:
            self.assertEqual(list(inspect.signature(getattr(seen, name)).parameters), parameters, name)


if __name__ == "__main__":
    unittest.main()
