import inspect
import random
import unittest
from fractions import Fraction

from clackrow.aims import aims
from clackrow.comings import next_coming
from clackrow.desk import Desk
from clackrow.errors import (ClackError, NoBall, NoOrder, NoPast, NoPlace, NoRow, NoText, NotEven, Shut, Together,
                             TooMany)
from clackrow.lines import at_once, counted
from clackrow.mosts import most_of
from clackrow.rounds import round_of
from clackrow.rows import energy_of, framed, is_even, is_row, is_still, middle_of, push_of
from clackrow.runs import comings, gone, turned
from clackrow.whens import when
from tests.things import OPEN, OTHER_KINDS, box, chance_row, pair, row_of, value_of

FAR = 10 ** 200
MOST = 10 ** 300 - 1

ALONE = ["turn", "back", "show", "push", "energy", "middle", "next", "round"]
WITH_WORDS = {"go": "1", "frame": "1/2", "count": "2", "at": "0 1", "when": "0 1 0", "aims": "1 0 1 0", "most": "1 2 3"}
# All that asks for a row.
OF_ROWS = ["go 1", "turn", "frame 1", "show", "push", "energy", "middle", "next", "count 1", "at 0 1", "round",
           "when 0 1 0", "aims 1 0 1 0"]

NO_RATIOS = ["", "x", "1.5", "+1", "-0", "01", "2/4", "1/1", "1/0", "1/-2", "-", "1/", "/2", "1\n", "\t1", "1" + "0" * 300,
             "1/1" + "0" * 300, "9" * 5000, "1,", "0/2", "--1"]
NO_NUMBERS = ["", "x", "-1", "-0", "+0", "00", "01", "1/2", "1.0", "0\n", "\t0", "1" + "0" * 60, "9" * 61, "0" * 61, "-",
              "9" * 5000]
NO_WEIGHTS = ["", "x", "0", "00", "01", "1001", "-1", "+1", "1/2", "1.0", "1\n", "9" * 61, "9" * 5000, "10000", "--", "None"]


def desk_with(*rows):
    """A desk that was told these, all of them deeds."""
    desk = Desk()
    for row in rows:
        answer = desk.say(row)
        assert answer == "ok", row
    return desk


def written(one):
    value = value_of(one)
    return str(value.numerator) if value.denominator == 1 else f"{value.numerator}/{value.denominator}"


def row_written(row):
    return "; ".join([f"{written(place)} {written(speed)} {weight}" for place, speed, weight in row])


def walls_written(walls):
    return " | ".join(["-" if one is None else f"{written(one[0])} {written(one[1])}" for one in walls])


def state(desk):
    """What the desk has, as it shows it."""
    try:
        return desk.say("walls"), desk.say("show")
    except NoRow:
        return desk.say("walls"), None


class DeskCase(unittest.TestCase):
    def refused(self, desk, error, *rows):
        """Holds that these are refused so, and change nothing."""
        before = state(desk)
        for row in rows:
            with self.assertRaises(ClackError, msg=repr(row)[:99]) as refusal:
                desk.say(row)
            self.assertIs(type(refusal.exception), error, repr(row)[:99])
            self.assertEqual(state(desk), before, repr(row)[:99])
        return refusal.exception


class Deeds(DeskCase):
    def test_at_first(self):
        self.assertEqual(Desk().say("walls"), "- | -")
        self.refused(Desk(), NoRow, "show")

    def test_walls(self):
        desk = Desk()
        self.assertEqual(desk.say("walls -1/2 3 | 9 0"), "ok")
        self.assertEqual(desk.say("walls"), "-1/2 3 | 9 0")
        self.assertEqual(desk.say("walls - | -"), "ok")
        self.assertEqual(desk.say("walls"), "- | -")

    def test_walls_take_the_row_away(self):
        desk = desk_with("row 1 2 3")
        self.assertEqual(desk.say("walls 0 0 | -"), "ok")
        self.refused(desk, NoRow, "show")
        self.assertEqual(desk.say("row 4 5 6"), "ok")
        self.assertEqual(desk.say("show"), "4 5 6")

    def test_row(self):
        desk = desk_with("walls 0 0 | 9 0", "row 1 2 3; 4 -1/2 5")
        self.assertEqual(desk.say("show"), "1 2 3; 4 -1/2 5")
        self.assertEqual(desk.say("row 0 0 1"), "ok")
        self.assertEqual(desk.say("show"), "0 0 1")
        self.assertEqual(desk.say("walls"), "0 0 | 9 0")

    def test_go(self):
        desk = desk_with("walls 0 1/4 | 9 0", "row 1 2 3; 4 -1/2 5")
        row, walls = gone(row_of((1, 2, 3), (4, Fraction(-1, 2), 5)), ((pair(0), (1, 4)), (pair(9), pair(0))), (9, 2))
        self.assertEqual(desk.say("go 9/2"), "ok")
        self.assertEqual(state(desk), (walls_written(walls), row_written(row)))
        self.assertEqual(desk.say("go 0"), "ok")
        self.assertEqual(state(desk), (walls_written(walls), row_written(row)))

    def test_turn(self):
        desk = desk_with("walls 0 1 | 9 -2", "row 1 2 3; 1 4 5", "turn")
        self.assertEqual(state(desk), ("0 -1 | 9 2", row_written(turned(row_of((1, 2, 3), (1, 4, 5)), OPEN)[0])))

    def test_frame(self):
        desk = desk_with("walls 0 1 | -", "row 1 2 3; 4 -1/2 5", "frame -1/2")
        self.assertEqual(state(desk), ("0 1/2 | -", "1 3/2 3; 4 -1 5"))

    def test_there_and_back_by_turns(self):
        desk = desk_with("walls 0 0 | 9 0", "row 1 2 3; 4 -1/2 5", "go 9/2", "turn", "go 9/2", "turn")
        self.assertEqual(state(desk), ("0 0 | 9 0", "1 2 3; 4 -1/2 5"))

    def test_back_through_all_deeds_to_nothing(self):
        rows = ["row 5 1 2", "walls 0 0 | 9 0", "row 1 2 3; 4 -1/2 5", "go 9/2", "frame 3", "turn", "row 2 2 2",
                "walls - | -", "walls 1 1 | 2 1", "row 1 1 1", "go 0", "turn"]
        desk = Desk()
        states = [state(desk)]
        for row in rows:
            self.assertEqual(desk.say(row), "ok")
            states.append(state(desk))
        for ahead in states[-2::-1]:
            self.assertEqual(desk.say("back"), "ok")
            self.assertEqual(state(desk), ahead)
        self.refused(desk, NoPast, "back", "back")
        self.assertEqual(state(desk), ("- | -", None))

    def test_back_is_no_deed_of_its_own(self):
        desk = desk_with("row 1 0 1", "row 2 0 1", "row 3 0 1", "back", "back")
        self.assertEqual(desk.say("show"), "1 0 1")
        desk = desk_with("row 1 0 1", "row 2 0 1", "back", "row 4 0 1", "back")
        self.assertEqual(desk.say("show"), "1 0 1")
        self.assertEqual(desk.say("back"), "ok")
        self.refused(desk, NoPast, "back")

    def test_answers_and_refusals_are_not_taken_back(self):
        desk = desk_with("walls 0 0 | 9 0", "row 1 2 3")
        for row in ["show", "walls", "push", "energy", "middle", "next", "count 5", "at 0 3", "round", "when 0 1 0",
                    "aims 1 0 1 0", "most 1 1 1"]:
            desk.say(row)
        self.refused(desk, NoOrder, "go x", "go -1", "no", "")
        self.refused(desk, NoText, "row x", "walls x", "walls ", "row ")
        self.refused(desk, NoRow, "row -1 0 1")
        self.refused(desk, TooMany, "go 99999")
        self.assertEqual(desk.say("back"), "ok")
        self.assertEqual(state(desk), ("0 0 | 9 0", None))

    def test_two_desks_do_not_touch_one_another(self):
        one, other = Desk(), Desk()
        one.say("walls 0 0 | 9 0")
        one.say("row 1 2 3")
        self.assertEqual(state(other), ("- | -", None))
        self.refused(other, NoPast, "back")
        other.say("row 5 5 5")
        self.assertEqual(state(one), ("0 0 | 9 0", "1 2 3"))
        one.say("back")
        self.assertEqual(other.say("show"), "5 5 5")


class Answers(DeskCase):
    def test_push_energy_middle(self):
        desk = desk_with("row 1 2 3; 4 -1/2 5")
        self.assertEqual([desk.say(row) for row in ["push", "energy", "middle"]], ["7/2", "53/4", "23/8"])
        desk = desk_with("row -2 -3 4")
        self.assertEqual([desk.say(row) for row in ["push", "energy", "middle"]], ["-12", "36", "-2"])

    def test_next(self):
        for rows, told in [(["row 0 0 1"], "never"), (["row 1 2 3; 4 -1/2 5"], "6/5: 0 1 -"),
                           (["walls 0 0 | 9 0", "row 1 -1 1; 8 1 2"], "1: 0 0 low, 1 1 high"),
                           (["walls 0 0 | 9 0", "row 1 -1 1; 4 1/2 3; 5 -1/2 3"], "1: 0 0 low, 1 2 -"),
                           (["row 0 1 1; 1 0 1; 2 -1 1"], "1: 0 2 -"),
                           (["walls - | 2 0", "row 0 2 1; 1 1 2"], "1: 0 1 high"),
                           (["row 0 1 1; 2 0 1; 10 1 5; 12 0 7"], "2: 0 1 -, 2 3 -")]:
            self.assertEqual(desk_with(*rows).say("next"), told)

    def test_count(self):
        desk = desk_with("walls 0 0 | 10 0", "row 2 0 7; 8 1 7")
        self.assertEqual(desk.say("count 0"), "0 0 0")
        self.assertEqual(desk.say("count 20"), "2 1 1")
        self.assertEqual(desk.say(f"count {10 ** 30}"), f"{10 ** 29} {5 * 10 ** 28} {5 * 10 ** 28}")
        self.assertEqual(desk_with("walls 0 0 | -", "row 1 -1 1; 3 -2 2").say("count 5/2"), "2 3 0")

    def test_at(self):
        desk = desk_with("walls 0 0 | 9 0", "row 1 2 3; 4 -1/2 5")
        for t in ["0", "1/2", "6/5", "4", "9/2"]:
            then = gone(row_of((1, 2, 3), (4, Fraction(-1, 2), 5)), ((pair(0), pair(0)), (pair(9), pair(0))),
                        pair(Fraction(t)))[0]
            for k in [0, 1]:
                self.assertEqual(desk.say(f"at {k} {t}"), f"{written(then[k][0])} {written(then[k][1])}")
        self.assertEqual(desk.say("show"), "1 2 3; 4 -1/2 5")

    def test_at_of_even_rows_at_once(self):
        row = row_of((2, 0, 7), (8, 1, 7), (9, Fraction(1, 3), 7))
        for walls in ["0 0 | 10 0", "0 0 | -", "- | 10 0", "- | -"]:
            desk = desk_with("walls " + walls, "row " + row_written(row))
            pair_of_walls = tuple([None if one == "-" else (pair(int(one.split(" ")[0])), pair(0))
                                   for one in walls.split(" | ")])
            for t in [pair(7), pair(FAR), pair(Fraction(MOST, 7)), pair(Fraction(MOST, MOST - 1))]:
                then = at_once(row, pair_of_walls, t)
                for k in range(3):
                    self.assertEqual(desk.say(f"at {k} {written(t)}"), f"{written(then[k][0])} {written(then[k][1])}")

    def test_at_of_other_rows_at_far_moments(self):
        self.refused(desk_with("walls 0 0 | 10 0", "row 2 0 7; 8 1 8"), TooMany, f"at 0 {FAR}")
        self.refused(desk_with("walls 0 0 | 10 -1/99999", "row 2 0 7; 8 9 7"), TooMany, "at 0 99999")
        self.assertEqual(desk_with("row 2 0 7; 8 1 8").say(f"at 1 {FAR}"), f"{FAR + 8} 1")

    def test_round(self):
        self.assertEqual(desk_with("walls 0 0 | 10 0", "row 2 0 7; 8 1 7").say("round"), "20")
        self.assertEqual(desk_with("walls 0 0 | 10 0", "row 2 3 7").say("round"), "20/3")
        self.assertEqual(desk_with("walls 0 0 | 10 0", "row 2 0 7; 3 0 7").say("round"), "rest")

    def test_when(self):
        desk = desk_with("walls 0 0 | 10 0", "row 2 0 7; 8 1 7")
        self.assertEqual(desk.say("when 1 5 0"), "7")
        self.assertEqual(desk.say("when 0 5 0"), "never")
        self.assertEqual(desk.say("when 1 11/2 29/4"), "35/2")
        self.assertEqual(desk.say(f"when 1 5 {FAR}"), str(FAR + 7))

    def test_aims(self):
        desk = desk_with("walls 0 0 | 10 0", "row 2 0 7; 8 1 7")
        self.assertEqual(desk.say("aims -3 0 2 1"), "0 1, 5 10")
        self.assertEqual(desk.say("aims 0 0 1/3 1"), "1/3 1/3")
        self.assertEqual(desk.say("aims 0 2 1/3 1"), "none")

    def test_most(self):
        for desk in [Desk(), desk_with("walls 0 0 | -"), desk_with("row 1 1 1")]:
            for weights, told in [("1 1 1", "3"), ("- 1 1", "4"), ("1 1 -", "4"), ("1000 1 1000", "71"), ("- 1 1000", "100"),
                                  ("1000 1 -", "100"), ("- 1 100", "32")]:
                self.assertEqual(desk.say("most " + weights), told)

    def test_walls_alone_without_a_row(self):
        self.assertEqual(desk_with("walls 0 0 | 1 0").say("walls"), "0 0 | 1 0")

    def test_300_figures(self):
        row = f"{-MOST} 1/{MOST} 1; {MOST - 1}/{MOST} {MOST} 1000"
        desk = desk_with(f"walls {-MOST} {-MOST} | {MOST} {MOST}/2", f"row {row}")
        self.assertEqual(desk.say("show"), row)
        self.assertEqual(desk.say(f"frame {MOST}/{MOST - 1}"), "ok")
        self.assertEqual(desk.say(f"go 1/{MOST}"), "ok")
        self.assertEqual(desk.say("back"), "ok")
        self.assertEqual(desk.say("back"), "ok")
        self.assertEqual(desk.say("show"), row)

    def test_answers_of_more_figures_than_may_be_written_in(self):
        desk = desk_with("row 0 1/3 1")
        at = Fraction(0)
        for k in range(18):
            bottom = 10 ** 299 + 2 * k + 1
            self.assertEqual(desk.say(f"go 1/{bottom}"), "ok")
            at += Fraction(1, 3 * bottom)
        # Python itself refuses to write numbers of so many figures.
        self.assertGreater(at.denominator, 10 ** 4300)
        place, speed, weight = desk.say("show").split(" ")
        top, bottom = place.split("/")
        self.assertEqual((speed, weight), ("1/3", "1"))
        self.assertNotIn("0", [top[0], bottom[0]])
        self.assertEqual((read_long(top), read_long(bottom)), (at.numerator, at.denominator))
        self.assertEqual(desk.say("middle"), place)

    def test_all_answers_are_texts(self):
        for row in ["walls", "most 1 1 1", "back", "walls - | -", "row 1 1 1"] + OF_ROWS:
            self.assertIs(type(desk_with("walls 0 0 | 10 0", "row 2 0 7; 8 1 7").say(row)), str, row)


def read_long(text):
    """The number of a text of however many figures."""
    number = 0
    for at in range(0, len(text), 1000):
        piece = text[at:at + 1000]
        number = number * 10 ** len(piece) + int(piece)
    return number


class NoOrders(DeskCase):
    def each(self, *rows):
        """Holds that these are no orders, with a row and without."""
        for desk in [Desk(), desk_with("walls 0 0 | 10 0", "row 2 0 7; 8 1 7")]:
            self.refused(desk, NoOrder, *rows)

    def test_things_that_are_no_texts(self):
        self.each(*[thing for thing in OTHER_KINDS if not isinstance(thing, str)])
        self.each(b"show", ["show"], ("show",), ("go", "1"), {"show": 1}, row_of((0, 0)), OPEN)

    def test_no_words(self):
        self.each("", " ", "  ", "\n", "\t", "x", "Show", "SHOW", "shows", "sho", "GO 1", "go1", "go\t1", "go\n1", "walls\t- | -",
                  "row\t0 0 1", "Row 0 0 1", "rows 0 0 1", "roww", "wall", "wall - | -", "Walls", "-", "0", "1/2", "ok",
                  "never", "undo", "help", "quit", "say", "past", "; show", "show;", "show\n", "\nshow", "\tshow", "walls\n",
                  "back\n", "turn\t")

    def test_a_row_without_a_blank(self):
        self.each("row")

    def test_words_too_many(self):
        self.each(*[word + " 1" for word in ALONE])
        self.each(*[word + " " for word in ALONE], *[word + " x" for word in ALONE])
        self.each(*[f"{word} {rest} 1" for word, rest in WITH_WORDS.items()])
        self.each(*[f"{word} {rest} " for word, rest in WITH_WORDS.items()])

    def test_words_too_few(self):
        for word, rest in WITH_WORDS.items():
            words = rest.split(" ")
            self.each(*[" ".join([word] + words[:many]) for many in range(len(words))])
            self.each(*[" ".join([word] + words[:many]) + " " for many in range(len(words))])

    def test_blanks_doubled(self):
        self.each(*[f"{word}  {rest}" for word, rest in WITH_WORDS.items()])
        self.each(*[f" {word} {rest}" for word, rest in WITH_WORDS.items()])
        self.each(*[" " + word for word in ALONE + ["walls", "walls - | -", "row 0 0 1"]])
        self.each("at 0  1", "when 0  1 0", "when 0 1  0", "aims 1 0  1 0", "most 1  2 3", "most 1 2  3")
        self.each("at 0\t1", "at 0\n1", "most 1\t2 3")

    def test_ratios_not_so_written(self):
        for text in NO_RATIOS:
            self.each("go " + text, "frame " + text, "count " + text, "at 0 " + text, f"when 0 {text} 0", "when 0 1 " + text,
                      f"aims {text} 0 1 0", f"aims 1 0 {text} 0", "aims 1 0 1 " + text)

    def test_moments_below_nought(self):
        for text in ["-1", "-1/2", f"-1/{MOST}", f"-{MOST}"]:
            self.each("go " + text, "count " + text, "at 0 " + text, "when 0 1 " + text, "aims 1 0 1 " + text)

    def test_numbers_of_balls_not_so_written(self):
        for text in NO_NUMBERS:
            self.each(f"at {text} 1", f"when {text} 1 0", f"aims 1 {text} 1 0")

    def test_weights_not_so_written(self):
        for text in NO_WEIGHTS:
            self.each(f"most {text} 1 1", f"most 1 {text} 1", f"most 1 1 {text}", f"most - {text} 1", f"most 1 {text} -",
                      f"most - 1 {text}", f"most {text} 1 -")
        self.each("most 1 - 1", "most - - 1", "most 1 - -", "most - - -")

    def test_ahead_of_all_others(self):
        self.refused(Desk(), NoOrder, "go x", "go -1", "show x", "back x", "at 0 x", "at x 0", "turn 1")
        self.refused(desk_with("walls 0 0 | 9 0", "row 1 1 1; 2 1 2"), NoOrder, "round 1", "when 9 99 x", "when x 99 0",
                     "aims x 9 99 1", "aims 1 9 x 1", "at 9 -1", "count -1", "most - 0 -")


class NoTexts(DeskCase):
    def test_walls_that_do_not_read(self):
        rows = ["walls " + text for text in ["", " ", "-", "- -", "- |", "| -", "-|-", " - | -", "- | - ", "-  | -", "0 | -",
                                             "0 0 | 0 0", "1 0 | 0 0", "x 0 | -", "- | -\n", "- | - | -", "0 0 0 | -",
                                             "2/4 0 | -", "0\t0 | -", "walls - | -", "0 0", "1 2 3", "1" + "0" * 300 + " 0 | -"]]
        self.refused(Desk(), NoText, *rows)
        self.refused(desk_with("walls 0 0 | 9 0", "row 1 1 1"), NoText, *rows)

    def test_rows_that_do_not_read(self):
        rows = ["row " + text for text in ["", " ", "0", "0 0", "0 0 0", "0 0 1001", "0 0 1 1", "0 0 1;", "0 0 1; ", " 0 0 1",
                                           "0 0 1 ", "0  0 1", "0 0 1\n", "x 0 1", "1 0 1; 0 0 1", "0 0 1; 0 0 1", "2/4 0 1",
                                           "0 0 1;1 0 1", "row 0 0 1", "- | -", "0 0 01", "1" + "0" * 300 + " 0 1",
                                           "; ".join([f"{k} 0 1" for k in range(9)])]]
        self.refused(Desk(), NoText, *rows)
        self.refused(desk_with("walls 0 0 | 9 0", "row 1 1 1"), NoText, *rows)

    def test_ahead_of_no_row(self):
        # Outside the walls, and no row at that.
        self.refused(desk_with("walls 0 0 | 9 0"), NoText, "row -1 0 1; -2 0 1", "row 99 0 0")


class NoRows(DeskCase):
    def test_not_between_the_walls(self):
        for walls, row in [("0 0 | 9 0", "-1 0 1"), ("0 0 | 9 0", "10 0 1"), ("0 0 | 9 0", "0 -1 1"), ("0 0 | 9 0", "9 1 1"),
                           ("0 0 | 9 0", "1 0 1; 10 0 1"), ("0 1 | -", "0 0 1"), ("- | 9 1", "9 2 1")]:
            self.refused(desk_with("walls " + walls), NoRow, "row " + row)
            self.assertEqual(desk_with("row " + row).say("show"), row)
        desk = desk_with("walls 0 0 | 9 0", "row 0 0 1; 9 0 1")
        self.refused(desk, NoRow, "row 0 0 1; 9 1 1")

    def test_by_walls_as_they_have_gone(self):
        desk = desk_with("walls 0 1 | -", "row 5 2 1", "go 2")
        self.refused(desk, NoRow, "row 1 5 1")
        self.assertEqual(desk.say("row 2 5 1"), "ok")
        self.assertEqual(desk.say("back"), "ok")
        self.assertEqual(desk.say("back"), "ok")
        self.assertEqual(desk.say("row 1 5 1"), "ok")

    def test_where_there_is_no_row(self):
        for desk in [Desk(), desk_with("walls 0 0 | 9 0"), desk_with("row 1 1 1", "walls 0 0 | 9 0"),
                     desk_with("row 1 1 1", "back"), desk_with("walls 0 1 | 9 0")]:
            self.refused(desk, NoRow, *OF_ROWS)
            # Ahead of what the functions refuse.
            self.refused(desk, NoRow, "at 99 1", "when 99 99 0", "aims 1 99 99 0")

    def test_most_of_two_walls(self):
        for desk in [Desk(), desk_with("row 1 1 1")]:
            self.refused(desk, NoRow, "most - 1 -", "most - 1000 -")


class FunctionsRefuse(DeskCase):
    def test_go(self):
        desk = desk_with("walls 0 1 | 10 -1", "row 5 0 1")
        self.assertEqual(self.refused(desk, Shut, "go 5", "go 6", "count 5", "at 0 5").moment, (5, 1))
        desk = desk_with("row -1 1 1; 0 0 2; 1 -1 1")
        self.assertEqual(self.refused(desk, Together, "go 1", "go 2", "count 1", "at 0 3").moment, (1, 1))
        desk = desk_with("walls 0 0 | 1 0", "row 0 1 1")
        self.refused(desk, TooMany, "go 401")
        self.assertEqual(desk.say("go 400"), "ok")

    def test_next(self):
        desk = desk_with("walls 0 1 | 10 -1", "row 5 0 1")
        self.assertEqual(self.refused(desk, Shut, "next").moment, (5, 1))

    def test_turn(self):
        desk = desk_with("row 0 0 1; 0 1 2; 0 2 1")
        self.assertEqual(self.refused(desk, Together, "turn").moment, (0, 1))

    def test_at_no_ball_ahead(self):
        for rows in [["row 0 0 1; 1 0 1"], ["walls 0 1 | 10 -1", "row 5 0 1; 6 0 1"], ["row -1 1 1; 1 -1 2"]]:
            self.refused(desk_with(*rows), NoBall, "at 2 1", "at 8 0", "at 2 99", f"at {10 ** 60 - 1} 5")
        self.refused(desk_with("walls 0 1 | 10 -1", "row 5 0 1; 6 0 1"), Shut, "at 1 99")

    def test_round_when_aims(self):
        for rows in [["row 1 0 1"], ["walls 0 0 | -", "row 1 0 1"], ["walls 0 0 | 9 1", "row 1 0 1"],
                     ["walls 0 0 | 9 0", "row 1 0 1; 2 0 2"]]:
            self.refused(desk_with(*rows), NotEven, "round", "when 0 1 0", "when 9 99 0", "aims 1 0 1 0", "aims 1 9 99 0")
        desk = desk_with("walls 0 0 | 9 0", "row 1 1 1; 2 0 1")
        self.refused(desk, NoBall, "when 2 1 0", "when 2 99 0", f"when {10 ** 60 - 1} 1 0", "aims 1 3 1 0", "aims 1 3 99 0")
        self.refused(desk, NoPlace, "when 0 10 0", "when 1 -1 0", "aims 1 2 10 0", "aims 1 0 -1/2 0")
        self.refused(desk_with("walls 0 0 | 1 0", "row 0 1 1; 1 -1/2000 1"), TooMany, "when 0 1/2 0")


def modelled(row, walls, past, words):
    """What is answered to words, and row, walls and past behind it, by the functions themselves."""
    order, rest = words[0], words[1:]
    if order in ["go", "turn", "frame"]:
        if order == "go":
            then = gone(row, walls, rest[0])
        else:
            then = turned(row, walls) if order == "turn" else framed(row, walls, rest[0])
        return "ok", then[0], then[1], past + [(row, walls)]
    if order == "back":
        if not past:
            raise NoPast("")
        return ("ok",) + past[-1] + (past[:-1],)
    if order == "walls":
        text = walls_written(walls)
    elif order == "show":
        text = row_written(row)
    elif order in ["push", "energy", "middle"]:
        text = written({"push": push_of, "energy": energy_of, "middle": middle_of}[order](row))
    elif order == "next":
        found = next_coming(row, walls)
        text = "never" if found is None else written(found[0]) + ": " + ", ".join(
            [f"{first} {last} {where or '-'}" for first, last, where in found[1]])
    elif order == "count":
        text = " ".join([str(number) for number in counted(row, walls, rest[0])])
    elif order == "at":
        if rest[0] >= len(row):
            raise NoBall("")
        plain = is_even(row) and is_still(walls)
        then = at_once(row, walls, rest[1]) if plain else gone(row, walls, rest[1])[0]
        text = f"{written(then[rest[0]][0])} {written(then[rest[0]][1])}"
    elif order == "round":
        found = round_of(row, walls)
        text = "rest" if found is None else written(found[0])
    elif order == "when":
        found = when(row, walls, rest[0], rest[1], rest[2])
        text = "never" if found[0] == "never" else written(found[1])
    elif order == "aims":
        text = ", ".join([f"{written(first)} {written(last)}" for first, last in aims(row, walls, *rest)]) or "none"
    else:
        text = str(most_of(tuple(rest))[0])
    return text, row, walls, past


class ByChance(unittest.TestCase):
    def words(self, source):
        """An order as a list of its words, as the functions take them."""
        t = pair(Fraction(source.randint(0, 9), source.choice([1, 2, 3])))
        one = pair(Fraction(source.randint(-9, 9), source.choice([1, 2, 3])))
        k = source.randint(0, 3)
        weights = [source.choice([None, 1, 2, 9]), source.choice([1, 5]), source.choice([None, 1, 3])]
        return source.choice([["go", t], ["go", t], ["turn"], ["frame", one], ["back"], ["back"], ["show"], ["walls"],
                              ["push"], ["energy"], ["middle"], ["next"], ["count", t], ["at", k, t], ["at", k, t], ["round"],
                              ["when", k, one, t], ["aims", one, k, one, t], ["most"] + weights, ["row"], ["set"]])

    def said(self, words):
        """The text of such an order."""
        return " ".join([written(word) if isinstance(word, tuple) else "-" if word is None else str(word)
                         for word in words])

    def step(self, source, row, walls, past):
        """An order, and what is answered to it, with row, walls and past behind it."""
        words = self.words(source)
        if words[0] in ["row", "set"]:
            walls_so = source.choice([None, box(-4, 4), box(-4, 4)])
            other, its_walls = chance_row(source, source.randint(1, 3), source.choice([[1], [1, 1, 2]]), walls_so)
            if words[0] == "set":
                return "walls " + walls_written(its_walls), ("ok", None, its_walls, past + [(row, walls)])
            text = "row " + row_written(other)
            good = is_row(walls, other)
            return text, ("ok", other, walls, past + [(row, walls)]) if good else NoRow
        if row is None and words[0] not in ["walls", "back", "most"]:
            return self.said(words), NoRow
        try:
            return self.said(words), modelled(row, walls, past, words)
        except ClackError as refusal:
            return self.said(words), type(refusal)

    def test_many_orders(self):
        source = random.Random(1311)
        kinds = {}
        for k in range(500):
            desk, row, walls, past = Desk(), None, OPEN, []
            for step in range(40):
                text, told = self.step(source, row, walls, past)
                if isinstance(told, tuple):
                    answer, row, walls, past = told
                    self.assertEqual(desk.say(text), answer, text)
                    kinds[text.split(" ")[0]] = kinds.get(text.split(" ")[0], 0) + 1
                else:
                    with self.assertRaises(ClackError) as refusal:
                        desk.say(text)
                    self.assertIs(type(refusal.exception), told, text)
                    kinds[told] = kinds.get(told, 0) + 1
                self.assertEqual(state(desk), (walls_written(walls), None if row is None else row_written(row)))
        for kind in ["go", "turn", "frame", "back", "show", "walls", "push", "energy", "middle", "next", "count", "at",
                     "round", "when", "aims", "most", "row", NoRow, NoBall, NoPlace, NotEven, NoPast]:
            self.assertGreater(kinds.get(kind, 0), 5, kind)


class Kinds(unittest.TestCase):
    def test_a_desk_is_made_of_nothing(self):
        self.assertEqual(list(inspect.signature(Desk).parameters), [])
        self.assertRaises(TypeError, Desk, 1)

    def test_arguments_by_name(self):
        self.assertEqual(Desk().say(row="walls"), "- | -")
        self.assertEqual(list(inspect.signature(Desk().say).parameters), ["row"])

    def test_comings_of_what_is_shown(self):
        desk = desk_with("walls 0 0 | 9 0", "row 1 2 3; 4 -1/2 5")
        moment = comings(row_of((1, 2, 3), (4, Fraction(-1, 2), 5)), ((pair(0), pair(0)), (pair(9), pair(0))), (9, 1))[0][0]
        self.assertEqual(desk.say("next").split(":")[0], written(moment))


if __name__ == "__main__":
    unittest.main()
