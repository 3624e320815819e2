import copy
import unittest

from clackrow import errors
from clackrow.errors import (
    ClackError, NoBall, NoEnd, NoOrder, NoPast, NoPlace, NoRatio, NoRow, NoText, NotEven, Shut, Together, TooMany,
)

WORDED = [NoRatio, TooMany, NotEven, NoEnd, NoBall, NoPlace, NoRow, NoText, NoOrder, NoPast]
MOMENTED = [Together, Shut]


class Refusals(unittest.TestCase):
    def test_all_twelve_stand_straight_beneath_clack_error(self):
        self.assertEqual(len(set(WORDED + MOMENTED)), 12)
        for one in WORDED + MOMENTED:
            self.assertEqual(one.__bases__, (ClackError,), one)
            self.assertEqual(one.__module__, "clackrow.errors")

    def test_clack_error_stands_straight_beneath_value_error(self):
        self.assertEqual(ClackError.__bases__, (ValueError,))

    def test_none_stands_beneath_another(self):
        for one in WORDED + MOMENTED:
            for other in WORDED + MOMENTED:
                self.assertEqual(issubclass(one, other), one is other, (one, other))
            self.assertFalse(issubclass(ClackError, one))
            self.assertFalse(issubclass(one, (LookupError, ArithmeticError, TypeError, RuntimeError)))

    def test_their_names(self):
        names = [name for name in dir(errors) if not name.startswith("_")]
        self.assertEqual(sorted(names), sorted([one.__name__ for one in WORDED + MOMENTED + [ClackError]]))

    def test_those_with_a_text_bear_it(self):
        for one in [ClackError] + WORDED:
            self.assertEqual(str(one("some words")), "some words")

    def test_each_is_taken_as_itself_and_as_what_it_stands_under(self):
        for one in WORDED:
            for taken in (one, ClackError, ValueError):
                with self.assertRaises(taken):
                    raise one("words")
        for one in MOMENTED:
            for taken in (one, ClackError, ValueError):
                with self.assertRaises(taken):
                    raise one((1, 2))

    def test_together_and_shut_bear_their_moment(self):
        for one in MOMENTED:
            for moment in [(0, 1), (1, 2), (10 ** 60, 7)]:
                self.assertEqual(one(moment).moment, moment)
                self.assertEqual(one(moment=moment).moment, moment)
                with self.assertRaises(one) as caught:
                    raise one(moment)
                self.assertEqual(caught.exception.moment, moment)
                self.assertEqual(copy.copy(one(moment)).moment, moment)

    def test_two_objects_bear_each_its_own_moment(self):
        first, second = Shut((1, 2)), Shut((3, 4))
        self.assertEqual((first.moment, second.moment), ((1, 2), (3, 4)))
        self.assertFalse(hasattr(Shut, "moment"))
        self.assertFalse(hasattr(Together, "moment"))

    def test_a_moment_of_very_many_figures_can_be_borne_and_shown(self):
        moment = (10 ** 6000 + 1, 10 ** 6000)
        for one in MOMENTED:
            self.assertEqual(one(moment).moment, moment)
            self.assertIsInstance(str(one(moment)), str)

    def test_together_and_shut_are_made_of_a_moment_alone(self):
        for one in MOMENTED:
            with self.assertRaises(TypeError):
                one()
            with self.assertRaises(TypeError):
                one((1, 2), (3, 4))


if __name__ == "__main__":
    unittest.main()
