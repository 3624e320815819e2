import copy
import inspect
import random
import unittest
from fractions import Fraction

from clackrow import ratios
from clackrow.errors import NoRatio
from clackrow.ratios import floor_of, is_ratio, is_whole, less, minus, over, plus, ratio, rest_of, times
from tests.things import NO_WHOLES, OTHER_KINDS, pair, value_of

GREAT = 10 ** 60
SOME = [Fraction(n, d) for n in (-7, -6, -2, -1, 0, 1, 2, 3, 10) for d in (1, 2, 3, 6, 10)]
EDGES = [Fraction(n, d) for n in (GREAT, -GREAT, GREAT - 1, 1 - GREAT, 0, 1) for d in (1, GREAT, GREAT - 1, GREAT + 7)]


def great_ones(many, seed, figures=60):
    source = random.Random(seed)
    span = 10 ** figures
    return [Fraction(source.randint(-span, span), source.randint(1, span)) for place in range(many)]


def all_pairs():
    few = SOME[::3] + EDGES[::2] + great_ones(8, 1) + great_ones(3, 2, 75) + great_ones(2, 3, 900)
    return [(one, other) for one in few for other in few]


class Wholes(unittest.TestCase):
    def test_whole_numbers_are(self):
        for thing in [0, 1, -1, 2, GREAT, -GREAT, 10 ** 75, 10 ** 5000]:
            self.assertIs(is_whole(thing), True)

    def test_truths_and_other_kinds_are_not(self):
        for thing in NO_WHOLES:
            self.assertIs(is_whole(thing), False, thing)


class IsRatio(unittest.TestCase):
    def test_ratios_are(self):
        for thing in [(0, 1), (1, 1), (-1, 1), (1, 2), (-3, 2), (GREAT, 1), (-GREAT, 7), (1, GREAT), (GREAT + 1, GREAT)]:
            self.assertIs(is_ratio(thing), True, thing)
        for value in great_ones(30, 4) + great_ones(5, 5, 900):
            self.assertIs(is_ratio(pair(value)), True)

    def test_what_is_not_in_lowest_terms_is_not(self):
        for thing in [(2, 2), (0, 2), (0, GREAT), (-4, 2), (6, 9), (-6, 9), (GREAT, 10), (10, GREAT), (GREAT, GREAT)]:
            self.assertIs(is_ratio(thing), False, thing)
        for value in great_ones(10, 6):
            self.assertIs(is_ratio((value.numerator * 7, value.denominator * 7)), False)

    def test_the_bottom_is_from_one_on(self):
        for thing in [(1, 0), (0, 0), (-1, 0), (1, -1), (1, -2), (-1, -2), (0, -1), (GREAT, -7)]:
            self.assertIs(is_ratio(thing), False, thing)

    def test_lists_and_other_numbers_of_parts_are_not(self):
        for thing in [[1, 2], [0, 1], (), (1,), (1, 2, 3), (0, 1, 1), [(1, 2)], ((1, 2),)]:
            self.assertIs(is_ratio(thing), False, thing)

    def test_other_kinds_in_either_place_are_not(self):
        for part in NO_WHOLES:
            for thing in [(part, 1), (1, part), (0, part), (part, 2), (part, part)]:
                self.assertIs(is_ratio(thing), False, thing)

    def test_other_kinds_are_not(self):
        for thing in OTHER_KINDS:
            self.assertIs(is_ratio(thing), thing == (0, 1) or thing == (1, 2), thing)

    def test_a_text_of_two_signs_is_not(self):
        self.assertIs(is_ratio("12"), False)

    def test_what_is_asked_of_stays_as_it_was(self):
        thing = [[1, 2], [None, [3]]]
        kept = copy.deepcopy(thing)
        self.assertIs(is_ratio(thing), False)
        self.assertIs(is_whole(thing), False)
        self.assertEqual(thing, kept)


class MadeRatios(unittest.TestCase):
    def test_lowest_terms(self):
        self.assertEqual(ratio(6, 4), (3, 2))
        self.assertEqual(ratio(-6, 4), (-3, 2))
        self.assertEqual(ratio(6, -4), (-3, 2))
        self.assertEqual(ratio(-6, -4), (3, 2))
        self.assertEqual(ratio(7, 7), (1, 1))
        self.assertEqual(ratio(GREAT, -GREAT), (-1, 1))

    def test_nought(self):
        for bottom in [1, -1, 2, -7, GREAT, -GREAT]:
            self.assertEqual(ratio(0, bottom), (0, 1))

    def test_the_bottom_is_one_where_none_is_told(self):
        for top in [0, 1, -1, 12, GREAT, -GREAT]:
            self.assertEqual(ratio(top), (top, 1))

    def test_great_numbers(self):
        source = random.Random(7)
        for figures in [3, 20, 60, 75, 80]:
            for time in range(40):
                span = 10 ** figures
                shared = source.randint(1, 10 ** (figures // 3))
                top = source.randint(-span, span) * shared
                bottom = source.choice([1, -1]) * source.randint(1, span) * shared
                made = ratio(top, bottom)
                self.assertEqual(made, pair(Fraction(top, bottom)))
                self.assertIs(is_ratio(made), True)

    def test_it_is_a_tuple_of_two_whole_numbers(self):
        for made in [ratio(6, 4), ratio(0, -5), ratio(7)]:
            self.assertIs(type(made), tuple)
            self.assertEqual([type(part) for part in made], [int, int])

    def test_a_bottom_of_nought_is_refused(self):
        for top in [0, 1, -1, GREAT]:
            with self.assertRaises(NoRatio):
                ratio(top, 0)

    def test_other_kinds_in_either_place_are_refused(self):
        for part in NO_WHOLES:
            for top, bottom in [(part, 1), (1, part), (part, 0), (0, part), (part, part)]:
                with self.assertRaises(NoRatio):
                    ratio(top, bottom)
            with self.assertRaises(NoRatio):
                ratio(part)


class Reckoning(unittest.TestCase):
    def agree(self, told, value):
        self.assertIs(is_ratio(told), True)
        self.assertEqual(told, pair(value))

    def test_plainly(self):
        self.assertEqual(plus((1, 2), (1, 3)), (5, 6))
        self.assertEqual(plus((1, 2), (-1, 2)), (0, 1))
        self.assertEqual(minus((1, 2), (1, 3)), (1, 6))
        self.assertEqual(minus((1, 3), (1, 2)), (-1, 6))
        self.assertEqual(times((2, 3), (-3, 4)), (-1, 2))
        self.assertEqual(times((0, 1), (-3, 4)), (0, 1))
        self.assertEqual(over((1, 2), (-3, 4)), (-2, 3))
        self.assertEqual(over((0, 1), (-3, 4)), (0, 1))

    def test_sums_differences_products_quotients(self):
        for one, other in all_pairs():
            self.agree(plus(pair(one), pair(other)), one + other)
            self.agree(minus(pair(one), pair(other)), one - other)
            self.agree(times(pair(one), pair(other)), one * other)
            if other != 0:
                self.agree(over(pair(one), pair(other)), one / other)

    def test_by_nought_is_refused(self):
        for value in SOME + EDGES:
            with self.assertRaises(NoRatio):
                over(pair(value), (0, 1))

    def test_less(self):
        for one, other in all_pairs():
            self.assertIs(less(pair(one), pair(other)), one < other)

    def test_less_of_great_ones_that_are_close(self):
        one, other = Fraction(GREAT - 1, GREAT), Fraction(GREAT, GREAT + 1)
        self.assertIs(less(pair(one), pair(other)), True)
        self.assertIs(less(pair(other), pair(one)), False)
        self.assertIs(less(pair(one), pair(one)), False)

    def test_floor(self):
        for told, floor in [((7, 2), 3), ((-7, 2), -4), ((4, 1), 4), ((-4, 1), -4), ((0, 1), 0), ((-1, GREAT), -1)]:
            self.assertEqual(floor_of(told), floor)
        for value in SOME + EDGES + great_ones(40, 8):
            self.assertEqual(floor_of(pair(value)), value.numerator // value.denominator)
            self.assertIs(type(floor_of(pair(value))), int)

    def test_rest_plainly(self):
        self.assertEqual(rest_of((7, 2), (1, 1)), (1, 2))
        self.assertEqual(rest_of((-7, 2), (2, 1)), (1, 2))
        self.assertEqual(rest_of((3, 1), (3, 2)), (0, 1))
        self.assertEqual(rest_of((-1, 3), (1, 2)), (1, 6))
        self.assertEqual(rest_of((1, 3), (5, 1)), (1, 3))
        self.assertEqual(rest_of((0, 1), (5, 7)), (0, 1))

    def test_rest(self):
        for one, other in all_pairs():
            if other > 0:
                self.agree(rest_of(pair(one), pair(other)), one % other)

    def test_rest_is_from_nought_on_below_the_other_and_a_whole_multiple_off(self):
        for one, other in all_pairs():
            if other > 0:
                rest = value_of(rest_of(pair(one), pair(other)))
                self.assertTrue(0 <= rest < other)
                self.assertEqual(((one - rest) / other).denominator, 1)

    def test_the_same_question_has_the_same_answer(self):
        for deed in [plus, minus, times, over, less, rest_of]:
            self.assertEqual(deed((5, 3), (7, 9)), deed((5, 3), (7, 9)))


class ByName(unittest.TestCase):
    def test_arguments_by_name(self):
        self.assertIs(is_whole(thing=3), True)
        self.assertIs(is_ratio(thing=(1, 2)), True)
        self.assertEqual(ratio(bottom=4, top=6), (3, 2))
        self.assertEqual(ratio(top=6), (6, 1))
        self.assertIs(less(other=(1, 2), one=(1, 3)), True)
        self.assertEqual(floor_of(one=(7, 2)), 3)
        self.assertEqual(rest_of(other=(2, 1), one=(7, 2)), (3, 2))

    def test_names_and_order(self):
        told = {
            "is_whole": ["thing"], "is_ratio": ["thing"], "ratio": ["top", "bottom"], "less": ["one", "other"],
            "floor_of": ["one"], "rest_of": ["one", "other"], "plus": ["one", "other"], "minus": ["one", "other"],
            "times": ["one", "other"], "over": ["one", "other"],
        }
        for name, parameters in told.items():
            self.assertEqual(list(inspect.signature(getattr(ratios, name)).parameters), parameters, name)


if __name__ == "__main__":
    unittest.main()
