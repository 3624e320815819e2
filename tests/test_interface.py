"""What holds of every function that is promised: its name, its arguments by name, the kind of its answer; that it
changes nothing that it is handed, keeps nothing of it, and that what it tells is the asker's own."""

import copy
import importlib
import inspect
import unittest

from clackrow import errors
from tests.things import NOUGHT, OPEN, box, row_of

HALF = (1, 2)
ROW = row_of((1, 2, 3), (4, -1, 5))
EVEN = row_of((2, 0, 7), (8, 1, 7))
WALLS = box(0, 10)
PARTING = (((0, 1), (-1, 1)), ((10, 1), (2, 1)))
BROAD = (((1, 1), (2, 1), 3, (1, 1)), ((4, 1), (-1, 1), 5, (2, 1)))
SOME = [((1, 1), 0, 1, ""), ((19, 7), 0, 0, "low"), ((33, 5), 1, 1, "high"), ((23, 3), 0, 1, ""), ((9, 1), 1, 1, "high")]
SIGHTINGS = [(0, 1, (2, 1), (0, 1), (-1, 1), (1, 1)), (1, 0, (2, 1), (0, 1), (0, 1), (2, 1))]
SPEEDS = ((2, 1), (0, 1))

# Of each file: the name of a function, its parameters in their order, with things that may be handed in, and the kind
# of what is answered.
INTERFACE = {
    "ratios": [
        ("is_whole", {"thing": 5}, bool),
        ("is_ratio", {"thing": HALF}, bool),
        ("ratio", {"top": 2, "bottom": 4}, tuple),
        ("plus", {"one": HALF, "other": HALF}, tuple),
        ("minus", {"one": HALF, "other": HALF}, tuple),
        ("times", {"one": HALF, "other": HALF}, tuple),
        ("over", {"one": HALF, "other": HALF}, tuple),
        ("less", {"one": HALF, "other": HALF}, bool),
        ("floor_of", {"one": HALF}, int),
        ("rest_of", {"one": (7, 2), "other": (1, 1)}, tuple),
    ],
    "rows": [
        ("walls_good", {"thing": WALLS}, bool),
        ("is_row", {"walls": WALLS, "thing": ROW}, bool),
        ("is_even", {"row": ROW}, bool),
        ("is_still", {"walls": WALLS}, bool),
        ("push_of", {"row": ROW}, tuple),
        ("energy_of", {"row": ROW}, tuple),
        ("middle_of", {"row": ROW}, tuple),
        ("framed", {"row": ROW, "walls": WALLS, "speed": HALF}, tuple),
    ],
    "comings": [
        ("next_coming", {"row": ROW, "walls": WALLS}, tuple),
        ("behind", {"row": ROW, "walls": WALLS}, tuple),
    ],
    "runs": [
        ("comings", {"row": ROW, "walls": WALLS, "t": (9, 1)}, list),
        ("gone", {"row": ROW, "walls": WALLS, "t": (9, 1)}, tuple),
        ("is_quiet", {"row": ROW, "walls": WALLS}, bool),
        ("ended", {"row": ROW, "walls": OPEN}, tuple),
        ("turned", {"row": ROW, "walls": WALLS}, tuple),
    ],
    "runjudge": [("lets_run", {"row": ROW, "walls": WALLS, "t": (9, 1), "some": SOME}, bool)],
    "lines": [
        ("at_once", {"row": EVEN, "walls": WALLS, "t": (9, 1)}, tuple),
        ("counted", {"row": EVEN, "walls": WALLS, "t": (9, 1)}, tuple),
        ("lines_met", {"row": EVEN, "walls": WALLS, "i": 0, "j": 1, "t": (9, 1)}, int),
    ],
    "rounds": [
        ("round_of", {"row": EVEN, "walls": WALLS}, tuple),
        ("lets_round", {"row": EVEN, "walls": WALLS, "moment": (20, 1), "paper": [((1, 1), 1)]}, bool),
    ],
    "whens": [
        ("when", {"row": EVEN, "walls": WALLS, "k": 0, "place": (5, 1), "t": NOUGHT}, tuple),
        ("lets_never", {"row": EVEN, "walls": WALLS, "k": 0, "place": (5, 1), "t": NOUGHT,
                        "moments": [(0, 1), (7, 1), (17, 1)]}, bool),
    ],
    "aims": [("aims", {"row": EVEN, "walls": WALLS, "speed": (-3, 1), "k": 0, "place": (2, 1), "t": (1, 1)}, list)],
    "mosts": [
        ("most_of", {"weights": (None, 2, 3)}, tuple),
        ("lets_most", {"weights": (1, 1, 1), "most": 3, "numbers": [(1, 1), (1, 1), (0, 1)]}, bool),
    ],
    "seen": [
        ("weights_of", {"n": 2, "sightings": SIGHTINGS}, tuple),
        ("does_all", {"weights": (1, 3), "sightings": SIGHTINGS[:1]}, bool),
        ("lets_ring", {"n": 2, "sightings": SIGHTINGS, "ring": [(0, 0), (1, 0)]}, bool),
    ],
    "speeds": [
        ("speeds_of", {"weights": (1, 3), "low": True, "high": False, "speeds": SPEEDS}, list),
        ("lets_speeds", {"weights": (1, 3), "low": False, "high": False, "speeds": SPEEDS,
                         "some": [((2, 1), (0, 1)), ((-1, 1), (1, 1))]}, bool),
    ],
    "broad": [
        ("is_broad", {"walls": WALLS, "thing": BROAD}, bool),
        ("thinned", {"broad": BROAD, "walls": WALLS}, tuple),
        ("broadened", {"row": ROW, "widths": [(1, 1), (2, 1)]}, tuple),
        ("broad_gone", {"broad": BROAD, "walls": WALLS, "t": (9, 1)}, tuple),
    ],
    "parting": [("knocks_ever", {"row": EVEN, "walls": PARTING}, tuple)],
    "texts": [
        ("ratio_text", {"one": HALF}, str),
        ("row_text", {"row": ROW}, str),
        ("walls_text", {"walls": WALLS}, str),
        ("read_ratio", {"thing": "1/2"}, tuple),
        ("read_row", {"thing": "1 2 3; 4 -1 5"}, tuple),
        ("walls_read", {"thing": "0 0 | -"}, tuple),
    ],
}
PLAIN_REFUSALS = ["NoRatio", "TooMany", "NotEven", "NoEnd", "NoBall", "NoPlace", "NoRow", "NoText", "NoOrder", "NoPast"]


def functions():
    """Each function with its name, what it may be handed and the kind that it answers."""
    told = []
    for file, rows in INTERFACE.items():
        module = importlib.import_module("clackrow." + file)
        told += [(file + "." + name, getattr(module, name), things, kind) for name, things, kind in rows]
    return told


def lists_in(thing):
    """All lists that a thing is or holds."""
    if not isinstance(thing, (list, tuple)):
        return []
    found = [thing] if isinstance(thing, list) else []
    for part in thing:
        found += lists_in(part)
    return found


def with_tuples(thing):
    """The thing, a tuple in place of each list that it is."""
    return tuple(thing) if isinstance(thing, list) else thing


class Everything(unittest.TestCase):
    def test_names_and_their_order(self):
        for name, function, things, kind in functions():
            self.assertEqual(list(inspect.signature(function).parameters), list(things), name)

    def test_by_place_and_by_name(self):
        for name, function, things, kind in functions():
            told = function(*things.values())
            self.assertIs(type(told), kind, name)
            backward = dict(reversed(things.items()))
            self.assertEqual(function(**backward), told, name)
            self.assertEqual(function(**things), told, name)

    def test_what_may_be_left_out(self):
        for name, function, things, kind in functions():
            free = [one.name for one in inspect.signature(function).parameters.values() if one.default is not one.empty]
            self.assertEqual(free, ["bottom"] if name == "ratios.ratio" else [], name)

    def test_nothing_handed_in_is_changed(self):
        for name, function, things, kind in functions():
            handed = copy.deepcopy(things)
            function(**handed)
            self.assertEqual(handed, things, name)

    def test_tuples_in_place_of_lists(self):
        for name, function, things, kind in functions():
            handed = {key: with_tuples(thing) for key, thing in things.items()}
            self.assertEqual(function(**handed), function(**things), name)

    def test_told_lists_are_new_and_the_askers_own(self):
        several = 0
        for name, function, things, kind in functions():
            handed = copy.deepcopy(things)
            told = function(**handed)
            lists = lists_in(told)
            several += len(lists)
            self.assertEqual(len(set([id(one) for one in lists])), len(lists), name)
            own = [id(one) for thing in handed.values() for one in lists_in(thing)]
            self.assertFalse(set(own) & set([id(one) for one in lists]), name)
            kept = copy.deepcopy(told)
            for one in lists:
                one.append("changed by the asker")
            self.assertEqual(function(**handed), kept, name)
        self.assertGreater(several, 9)

    def test_nothing_handed_in_is_kept(self):
        for name, function, things, kind in functions():
            handed = copy.deepcopy(things)
            told = function(**handed)
            kept = copy.deepcopy(told)
            for thing in handed.values():
                for one in lists_in(thing):
                    one.clear()
            self.assertEqual(told, kept, name)
            self.assertEqual(function(**things), kept, name)

    def test_judges_let_by_what_is_right_here(self):
        for name, function, things, kind in functions():
            if ".lets_" in name:
                self.assertIs(function(**things), True, name)

    def test_the_desk(self):
        module = importlib.import_module("clackrow.desk")
        desk = module.Desk()
        self.assertEqual(desk.say(row="row 0 0 1"), "ok")
        self.assertEqual(desk.say("show"), "0 0 1")


class Refusals(unittest.TestCase):
    def test_straight_beneath(self):
        self.assertEqual(errors.ClackError.__bases__, (ValueError,))
        for name in PLAIN_REFUSALS + ["Together", "Shut"]:
            self.assertEqual(getattr(errors, name).__bases__, (errors.ClackError,), name)

    def test_made_with_a_text_or_of_a_moment(self):
        for name in PLAIN_REFUSALS:
            self.assertEqual(str(getattr(errors, name)("why")), "why")
        for name in ["Together", "Shut"]:
            self.assertEqual(getattr(errors, name)((1, 2)).moment, (1, 2))
            self.assertEqual(getattr(errors, name)(moment=(1, 2)).moment, (1, 2))


if __name__ == "__main__":
    unittest.main()
