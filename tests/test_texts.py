import inspect
import random
import re
import unittest
from fractions import Fraction

from clackrow import texts
from clackrow.errors import NoText
from clackrow.runs import gone
from clackrow.texts import ratio_text, read_ratio, read_row, row_text, walls_read, walls_text
from tests.things import OPEN, OTHER_KINDS, box, chance_row, high_at, low_at, pair, row_of, wall

MOST = 10 ** 300 - 1

NO_TEXTS = [thing for thing in OTHER_KINDS if not isinstance(thing, str)] + [
    (1, 1), [1, 1], ["1"], ("1",), (None, None), row_of((0, 0)), box(0, 1), b"1", {"1": 1}, ("1", "2"), [("1",)]]

# None of these is a ratio's text, nor is it with anything put behind or ahead.
NO_RATIOS = [
    "", " ", "-", "--1", "+1", "+0", "-0", "00", "01", "007", "-01", "-00", "- 1", "1 ", " 1", "1\n", "\n1", "1\t", "\t1",
    "1 2", "1.0", "1.5", ".5", "1e3", "0x1", "1_0", "1,0", "a", "one", "I", "~", "None", "True", "(1, 2)", "1:2", "1|2",
    "/", "1/", "/2", "1//2", "1/2/3", "1 /2", "1/ 2", "1 / 2", "1/2 ", " 1/2", "1/2\n", "1/\n2", "1\t/2",
    "1/1", "0/1", "5/1", "-5/1", "1/0", "0/0", "-1/0", "1/-2", "-1/-2", "1/+2", "+1/2", "1/02", "01/2", "1/00", "1/01",
    "2/4", "-2/4", "0/2", "-0/2", "-0/1", "6/3", "10/4", "2/2", "-2/2", "3/-3", "1/2/", "/1/2", "1-", "1-2", "--", "-/2",
    "-a", "1/a", "a/2", "1/2a", "-1/2-", ";", "1;", "|", "- |", "1 0", "0 0 1",
    "1" + "0" * 300, "-1" + "0" * 300, "1/1" + "0" * 300, "1" + "0" * 300 + "/3", "0" * 301, "9" * 301, "9" * 5000,
    "1/" + "9" * 5000, "1/3" + "0" * 300,
]


def written(value):
    """The text of a fraction."""
    value = Fraction(value)
    return str(value.numerator) if value.denominator == 1 else f"{value.numerator}/{value.denominator}"


def changed(source, text):
    """The text with one sign more, fewer, or other."""
    at = source.randint(0, len(text))
    sign = source.choice("0123456789-/;| \n\t+.a")
    return source.choice([text[:at] + sign + text[at:], text[:at] + text[at + 1:], text[:at] + sign + text[at + 1:]])


class Ratios(unittest.TestCase):
    def test_told_cases(self):
        for one, text in [((0, 1), "0"), ((1, 1), "1"), ((-1, 1), "-1"), ((1, 2), "1/2"), ((-1, 2), "-1/2"), ((10, 1), "10"),
                          ((-100, 7), "-100/7"), ((7, 100), "7/100"), ((3, 2), "3/2"), ((-7, 1), "-7"),
                          ((1, 10), "1/10"), ((90, 1), "90"), ((1001, 1000), "1001/1000")]:
            self.assertEqual(ratio_text(one), text)
            self.assertEqual(read_ratio(text), one)

    def test_there_and_back(self):
        source = random.Random(1301)
        for k in range(500):
            figures = source.choice([1, 2, 5, 59, 60, 61, 120, 121, 300])
            value = Fraction(source.randint(1 - 10 ** figures, 10 ** figures - 1), source.randint(1, 10 ** figures - 1))
            self.assertEqual(ratio_text(pair(value)), written(value))
            self.assertEqual(read_ratio(written(value)), pair(value))

    def test_300_figures(self):
        for one in [(MOST, 1), (-MOST, 1), (1, MOST), (-1, MOST), (MOST, MOST - 1), (1 - MOST, MOST), (10 ** 299, 1),
                    (10 ** 60, 1), (10 ** 60 - 1, 1), (1, 10 ** 60), (-10 ** 60, 10 ** 60 + 1), (10 ** 120 + 5, 1)]:
            self.assertEqual(ratio_text(one), written(Fraction(*one)))
            self.assertEqual(read_ratio(ratio_text(one)), one)
        self.assertEqual(read_ratio("-" + "9" * 300 + "/1" + "0" * 299), (-MOST, 10 ** 299))

    def test_what_is_told_here_may_be_greater(self):
        # Python itself refuses to write this number.
        self.assertEqual(ratio_text((10 ** 6000 + 7, 10 ** 5000)), "1" + "0" * 5999 + "7/1" + "0" * 5000)
        self.assertEqual(ratio_text((-10 ** 6000, 1)), "-1" + "0" * 6000)

    def test_texts_nearly_so(self):
        for text in NO_RATIOS:
            self.assertRaises(NoText, read_ratio, text)

    def test_other_figures_than_ours(self):
        for text in ["\u00b2", "\u0661", "1\u00b2", "1/\u0662", "\uff11"]:
            self.assertRaises(NoText, read_ratio, text)

    def test_things_that_are_no_texts(self):
        for thing in NO_TEXTS:
            self.assertRaises(NoText, read_ratio, thing)

    def test_what_reads_is_just_what_is_written(self):
        source = random.Random(1302)
        kinds = [0, 0]
        for k in range(4000):
            text = changed(source, written(Fraction(source.randint(-30, 30), source.randint(1, 12))))
            try:
                one = read_ratio(text)
            except NoText:
                kinds[0] += 1
                # Nothing is left out that some ratio is written as.
                found = re.fullmatch("(-?[0-9]+)(?:/([0-9]*[1-9][0-9]*))?", text)
                if found:
                    self.assertNotEqual(written(Fraction(int(found[1]), int(found[2] or 1))), text)
            else:
                kinds[1] += 1
                self.assertEqual(ratio_text(one), text)
        self.assertGreater(min(kinds), 500)


class Rows(unittest.TestCase):
    def test_told_cases(self):
        for row, text in [(row_of((0, 0, 1)), "0 0 1"), (row_of((Fraction(-1, 2), Fraction(3, 4), 1000)), "-1/2 3/4 1000"),
                          (row_of((0, -1, 5), (0, 1, 7)), "0 -1 5; 0 1 7"),
                          (row_of((1, 2, 3), (4, -5, 6), (7, 0, 10)), "1 2 3; 4 -5 6; 7 0 10")]:
            self.assertEqual(row_text(row), text)
            self.assertEqual(read_row(text), row)

    def test_there_and_back(self):
        source = random.Random(1303)
        for k in range(300):
            row = chance_row(source, source.randint(1, 8), [1, 2, 999, 1000], OPEN, bottoms=(1, 2, 3, 7))[0]
            text = "; ".join([f"{written(Fraction(*ball[0]))} {written(Fraction(*ball[1]))} {ball[2]}" for ball in row])
            self.assertEqual(row_text(row), text)
            self.assertEqual(read_row(text), row)

    def test_300_figures(self):
        row = row_of((-MOST, Fraction(1, MOST), 1), (Fraction(MOST - 1, MOST), MOST, 1000))
        self.assertEqual(read_row(row_text(row)), row)
        self.assertRaises(NoText, read_row, f"1{'0' * 300} 0 1")
        self.assertRaises(NoText, read_row, f"0 1/1{'0' * 300} 1")

    def test_of_whatever_weights_and_sizes(self):
        for many in range(1, 9):
            text = "; ".join([f"{k} 0 {k + 1}" for k in range(many)])
            self.assertEqual(read_row(text), row_of(*[(k, 0, k + 1) for k in range(many)]))
        for many in [9, 10, 50]:
            self.assertRaises(NoText, read_row, "; ".join([f"{k} 0 {k + 1}" for k in range(many)]))

    def test_weights(self):
        for weight in ["1", "9", "10", "999", "1000"]:
            self.assertEqual(read_row("0 0 " + weight)[0][2], int(weight))
        for weight in ["0", "-1", "-0", "1001", "1002", "10000", "01", "001", "1/2", "2/2", "1000/1", "+1", "", "x", "1.0",
                       "9" * 300, "9" * 301, "9" * 5000, "-"]:
            self.assertRaises(NoText, read_row, "0 0 " + weight)
            self.assertRaises(NoText, read_row, "-1 0 1; 0 0 " + weight)

    def test_no_rows(self):
        for text in ["1 0 1; 0 0 1", "0 0 1; 0 0 1", "0 1 1; 0 0 1", "0 1 1; 0 1 2", "0 0 1; 5 0 1; 4 0 1",
                     "1/2 0 1; 1/3 0 1", "0 0 1; 0 -1 1", "-1 0 1; -2 0 1"]:
            self.assertRaises(NoText, read_row, text)

    def test_wherever_walls_are(self):
        self.assertEqual(read_row("-5 -9 1"), row_of((-5, -9, 1)))

    def test_texts_nearly_so(self):
        for text in ["", " ", ";", "; ", "0", "0 0", "0 0 1 1", "0 0 1;", "0 0 1; ", "; 0 0 1", ";0 0 1", " 0 0 1", "0 0 1 ",
                     "0  0 1", "0 0  1", "0\t0 1", "0 0\n1", "0 0 1\n", "\n0 0 1", "0 0 1;1 0 1", "0 0 1 ; 1 0 1",
                     "0 0 1;  1 0 1", "0 0 1; ; 1 0 1", "0 0 1;; 1 0 1", "0 0 1;\n1 0 1", "0 0 1, 1 0 1", "0 0 1 | 1 0 1",
                     "0 0 1 1 0 1", "- 0 1", "0 - 1", "-", "- | -", "0,0,1", "(0, 0, 1)", "0 0 1; 1 0", "0 0 1; 1 0 1 1",
                     "0 0 1; 1 0 1;", "x 0 1", "0 x 1", "0 0 1\t; 1 0 1", "0 0 1; \t1 0 1"]:
            self.assertRaises(NoText, read_row, text)

    def test_ratios_nearly_so(self):
        for text in NO_RATIOS:
            self.assertRaises(NoText, read_row, text + " 0 1")
            self.assertRaises(NoText, read_row, "0 " + text + " 1")
            self.assertRaises(NoText, read_row, "-9 0 1; 0 " + text + " 1")

    def test_things_that_are_no_texts(self):
        for thing in NO_TEXTS:
            self.assertRaises(NoText, read_row, thing)

    def test_what_reads_is_just_what_is_written(self):
        source = random.Random(1304)
        kinds = [0, 0]
        for k in range(3000):
            row = chance_row(source, source.randint(1, 3), [1, 5, 1000], OPEN)[0]
            text = changed(source, row_text(row))
            try:
                self.assertEqual(row_text(read_row(text)), text)
                kinds[1] += 1
            except NoText:
                kinds[0] += 1
        self.assertGreater(min(kinds), 300)


class Walls(unittest.TestCase):
    def test_told_cases(self):
        for walls, text in [(OPEN, "- | -"), (low_at(0), "0 0 | -"), (high_at(0), "- | 0 0"), (box(-1, 1), "-1 0 | 1 0"),
                            ((wall(Fraction(-1, 2), 3), wall(Fraction(7, 5), Fraction(-2, 9))), "-1/2 3 | 7/5 -2/9")]:
            self.assertEqual(walls_text(walls), text)
            self.assertEqual(walls_read(text), walls)

    def test_there_and_back(self):
        source = random.Random(1305)
        for k in range(300):
            walls = chance_row(source, 1, [1])[1]
            text = " | ".join(["-" if one is None else f"{written(Fraction(*one[0]))} {written(Fraction(*one[1]))}"
                               for one in walls])
            self.assertEqual(walls_text(walls), text)
            self.assertEqual(walls_read(text), walls)

    def test_300_figures(self):
        walls = (wall(-MOST, Fraction(1, MOST)), wall(Fraction(MOST - 1, MOST), MOST))
        self.assertEqual(walls_read(walls_text(walls)), walls)
        self.assertRaises(NoText, walls_read, f"- | 1{'0' * 300} 0")

    def test_low_at_or_above_high(self):
        for text in ["0 0 | 0 0", "1 0 | 0 0", "0 -1 | 0 1", "1/2 0 | 1/3 0", "0 0 | -1 0"]:
            self.assertRaises(NoText, walls_read, text)
        self.assertEqual(walls_read("1/3 0 | 1/2 0"), box(Fraction(1, 3), Fraction(1, 2)))

    def test_texts_nearly_so(self):
        for text in ["", " ", "|", " | ", "-", "--", "- -", "-|-", "- |-", "-| -", "- | ", " | -", "- | - ", " - | -",
                     "-  | -", "- |  -", "- | - | -", "- | -\n", "\n- | -", "-\t| -", "-\n|\n-", "- ; -", "- || -",
                     "0 | -", "- | 0", "0 0 0 | -", "- | 0 0 0", "0 0", "0 0 |", "| 0 0", "0 0 | ", " | 0 0", "0  0 | -",
                     "0 0  | -", "0 0 |  -", "0\t0 | -", "0 0 | 1 0 | 2 0", "0 0 1 | 1 0 1", "- 0 | -", "0 - | -", "- | - 0",
                     "None | None", "0 0 | None", "- - | -", "0 0 ; 1 0", "0 0 | 1 0 ", " 0 0 | 1 0", "0 0| 1 0", "0 0 |1 0",
                     "-- | -", "- | --"]:
            self.assertRaises(NoText, walls_read, text)

    def test_ratios_nearly_so(self):
        for text in NO_RATIOS:
            for form in [text + " 0 | -", "0 " + text + " | -", "- | " + text + " 0", "- | 0 " + text]:
                self.assertRaises(NoText, walls_read, form)

    def test_things_that_are_no_texts(self):
        for thing in NO_TEXTS:
            self.assertRaises(NoText, walls_read, thing)

    def test_what_reads_is_just_what_is_written(self):
        source = random.Random(1306)
        kinds = [0, 0]
        for k in range(3000):
            text = changed(source, walls_text(chance_row(source, 1, [1])[1]))
            try:
                self.assertEqual(walls_text(walls_read(text)), text)
                kinds[1] += 1
            except NoText:
                kinds[0] += 1
        self.assertGreater(min(kinds), 200)


class Kinds(unittest.TestCase):
    def test_rows_that_have_gone(self):
        row, walls = gone(row_of((1, 2, 3), (4, Fraction(-1, 2), 5)), box(0, 9), (9, 2))
        self.assertEqual(read_row(row_text(row)), row)
        self.assertEqual(walls_read(walls_text(walls)), walls)

    def test_arguments_by_name(self):
        self.assertEqual(ratio_text(one=(1, 2)), "1/2")
        self.assertEqual(row_text(row=row_of((0, 0, 1))), "0 0 1")
        self.assertEqual(walls_text(walls=OPEN), "- | -")
        self.assertEqual(read_ratio(thing="1/2"), (1, 2))
        self.assertEqual(read_row(thing="0 0 1"), row_of((0, 0, 1)))
        self.assertEqual(walls_read(thing="- | -"), OPEN)
        for name, parameters in [("ratio_text", ["one"]), ("row_text", ["row"]), ("walls_text", ["walls"]),
                                 ("read_ratio", ["thing"]), ("read_row", ["thing"]), ("walls_read", ["thing"])]:
            self.assertEqual(list(inspect.signature(getattr(texts, name)).parameters), parameters, name)


if __name__ == "__main__":
    unittest.main()
