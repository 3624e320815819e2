import inspect
import random
import unittest
from fractions import Fraction

from clackrow import runjudge
from clackrow.runjudge import lets_run
from clackrow.runs import comings
from tests.things import NOUGHT, OPEN, box, chance_row, pair, row_of, stepped, value_of, wall

ROW, WALLS, END = row_of((1, -1, 1), (3, 1, 1), (7, -2, 4)), box(0, 8), (9, 1)
REFUSED = [
    (row_of((5, 0)), (wall(0, 1), wall(10, -1)), (5, 1)),
    (row_of((2, 1, 1), (3, 0, 2), (4, -1, 3)), OPEN, (1, 1)),
    (row_of(("1/2", 1)), box(0, 1), (500, 1)),
]


def spoiled(some):
    """Lists that differ from this one in one thing."""
    for k, (moment, first, last, where) in enumerate(some):
        def with_this(*parts):
            return some[:k] + list(parts) + some[k + 1:]

        yield with_this()
        yield with_this(some[k], some[k])
        for other in [value_of(moment) + 1, value_of(moment) - Fraction(1, 10 ** 60), 0, -value_of(moment)]:
            yield with_this((pair(other), first, last, where))
        for number in [first - 1, first + 1, 10 ** 9]:
            yield with_this((moment, number, last, where))
        for number in [last - 1, last + 1, 10 ** 9]:
            yield with_this((moment, first, number, where))
        for text in ["low", "high", "", "-", "LOW", "low "]:
            if text != where:
                yield with_this((moment, first, last, text))
        if k > 0:
            yield some[:k - 1] + [some[k], some[k - 1]] + some[k + 1:]


class LetsRun(unittest.TestCase):
    def test_the_very_list(self):
        some = comings(ROW, WALLS, END)
        self.assertGreater(len(some), 8)
        self.assertIs(lets_run(ROW, WALLS, END, some), True)
        self.assertIs(lets_run(ROW, WALLS, END, tuple(some)), True)
        self.assertIs(lets_run(row_of((0, 3)), OPEN, END, []), True)
        self.assertIs(lets_run(row_of((0, 3)), OPEN, END, ()), True)

    def test_written_by_hand(self):
        row, walls = row_of((1, -1), (3, 1)), box(0, 4)
        some = [((1, 1), 0, 0, "low"), ((1, 1), 1, 1, "high"), ((3, 1), 0, 1, "")]
        self.assertIs(lets_run(row, walls, (3, 1), some), True)
        self.assertIs(lets_run(row, walls, (4, 1), some), True)
        self.assertIs(lets_run(row, walls, (5, 1), some), False)
        self.assertIs(lets_run(row, walls, (2, 1), some), False)
        self.assertIs(lets_run(row, walls, (3, 1), [some[1], some[0], some[2]]), False)

    def test_any_other_list(self):
        some = comings(ROW, WALLS, END)
        others = list(spoiled(some))
        self.assertGreater(len(others), 100)
        for other in others:
            self.assertIs(lets_run(ROW, WALLS, END, other), False, other)
            self.assertIs(lets_run(ROW, WALLS, END, tuple(other)), False, other)

    def test_too_short_and_too_long(self):
        some = comings(ROW, WALLS, END)
        self.assertIs(lets_run(ROW, WALLS, END, []), False)
        self.assertIs(lets_run(ROW, WALLS, END, some[1:]), False)
        self.assertIs(lets_run(ROW, WALLS, END, some + some), False)
        self.assertIs(lets_run(ROW, WALLS, END, some + [((10 ** 9, 1), 0, 0, "low")]), False)
        self.assertIs(lets_run(ROW, WALLS, NOUGHT, some), False)
        self.assertIs(lets_run(ROW, WALLS, NOUGHT, []), True)
        self.assertIs(lets_run(ROW, WALLS, some[-1][0], some), len(some) == len(comings(ROW, WALLS, some[-1][0])))

    def test_a_run_that_is_refused(self):
        for row, walls, t in REFUSED:
            so = stepped(row, walls, value_of(t) - Fraction(1, 100), most=10 ** 6)
            for some in [[], so[1], so[1][:400], so[1] + [(t, 0, 2, "")], so[1] + [(t, 0, 0, "low")]]:
                self.assertIs(lets_run(row, walls, t, some), False)
                self.assertIs(lets_run(row, walls, t, tuple(some)), False)

    def test_just_400(self):
        row, walls = row_of(("1/2", 1)), box(0, 1)
        some = [((2 * k + 1, 2), 0, 0, "low" if k % 2 else "high") for k in range(401)]
        self.assertIs(lets_run(row, walls, (400, 1), some[:400]), True)
        self.assertIs(lets_run(row, walls, (401, 1), some), False)
        self.assertIs(lets_run(row, walls, (401, 1), some[:400]), False)

    def test_by_chance(self):
        source = random.Random(51)
        good = 0
        for time in range(150):
            row, walls = chance_row(source, source.randint(1, 6), [1, 1, 1, 2, 3])
            t = Fraction(source.randint(0, 20), 3)
            so = stepped(row, walls, t)
            if so[0] == "gone":
                good += 1
                self.assertIs(lets_run(row, walls, pair(t), so[1]), True)
                for other in source.sample(list(spoiled(so[1])), min(len(so[1]), 3)):
                    self.assertIs(lets_run(row, walls, pair(t), other), False)
            else:
                self.assertIs(lets_run(row, walls, pair(t), []), False)
        self.assertGreater(good, 80)

    def test_what_is_handed_in_stays(self):
        some = comings(ROW, WALLS, END)
        kept = list(some)
        self.assertIs(lets_run(ROW, WALLS, END, some), True)
        self.assertEqual(some, kept)
        some.pop()
        self.assertIs(lets_run(ROW, WALLS, END, some), False)
        self.assertIs(lets_run(ROW, WALLS, END, kept), True)

    def test_arguments_by_name(self):
        self.assertIs(lets_run(some=[], t=END, walls=OPEN, row=row_of((0, 3))), True)
        self.assertEqual(list(inspect.signature(runjudge.lets_run).parameters), ["row", "walls", "t", "some"])


if __name__ == "__main__":
    unittest.main()
