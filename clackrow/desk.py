"""A desk: it keeps walls and a row, is told what to do in rows of words, and answers texts."""

from clackrow.aims import aims
from clackrow.comings import next_coming
from clackrow.errors import NoOrder, NoPast, NoRow, NoText
from clackrow.lines import at_once, counted, is_plain, refuse_no_ball
from clackrow.mosts import most_of
from clackrow.ratios import less
from clackrow.rounds import round_of
from clackrow.rows import NOUGHT, energy_of, framed, is_row, is_weight, middle_of, push_of
from clackrow.runs import gone, turned
from clackrow.texts import number_text, ratio_text, read_number, read_ratio, read_row, row_text, walls_read, walls_text
from clackrow.whens import when

MOST_BALL_FIGURES = 60

# What words stand behind the first one of each order. Those of a row, and of walls that are to be set, are not here:
# theirs is one text with blanks in it.
WORDS = {
    "go": ("moment",),
    "turn": (),
    "frame": ("ratio",),
    "back": (),
    "show": (),
    "walls": (),
    "push": (),
    "energy": (),
    "middle": (),
    "next": (),
    "count": ("moment",),
    "at": ("ball", "moment"),
    "round": (),
    "when": ("ball", "ratio", "moment"),
    "aims": ("ratio", "ball", "ratio", "moment"),
    "most": ("outer", "weight", "outer"),
}
WITHOUT_ROW = ("walls", "back", "most")


def read_any(word):
    """The ratio of a word; NoText."""
    return read_ratio(word)


def read_moment(word):
    """The moment of a word; NoText."""
    moment = read_ratio(word)
    if less(moment, NOUGHT):
        raise NoText("a moment is not below 0")
    return moment


def read_ball_number(word):
    """The number of a ball, of which there may be none; NoText."""
    return read_number(word, MOST_BALL_FIGURES)


def read_weight(word):
    """The weight of a word; NoText."""
    weight = read_number(word, MOST_BALL_FIGURES)
    if not is_weight(weight):
        raise NoText("this is no weight")
    return weight


def read_outer(word):
    """The weight of a word, or None for a wall; NoText."""
    return None if word == "-" else read_weight(word)


READERS = {
    "moment": read_moment,
    "ratio": read_any,
    "ball": read_ball_number,
    "weight": read_weight,
    "outer": read_outer,
}


def become(desk, walls, row):
    """Keeps what the desk has for a way back, and gives it these."""
    desk.past.append((desk.walls, desk.row))
    desk.walls = walls
    desk.row = row
    return "ok"


def set_walls(desk, text):
    """New walls, and no row; NoText."""
    return become(desk, walls_read(text), None)


def set_row(desk, text):
    """A new row; NoText, NoRow."""
    row = read_row(text)
    if not is_row(desk.walls, row):
        raise NoRow("the row is not between the walls")
    return become(desk, desk.walls, row)


def go_on(desk, things):
    """Row and walls as gone to a moment."""
    row, walls = gone(desk.row, desk.walls, things[0])
    return become(desk, walls, row)


def turn_about(desk, things):
    """Row and walls turned."""
    row, walls = turned(desk.row, desk.walls)
    return become(desk, walls, row)


def frame_by(desk, things):
    """Row and walls framed by a speed."""
    row, walls = framed(desk.row, desk.walls, things[0])
    return become(desk, walls, row)


def take_back(desk, things):
    """What was ahead of the last deed that is left; NoPast."""
    if len(desk.past) == 0:
        raise NoPast("there is nothing to be taken back")
    desk.walls, desk.row = desk.past.pop()
    return "ok"


def tell_row(desk, things):
    """The row."""
    return row_text(desk.row)


def tell_walls(desk, things):
    """The walls."""
    return walls_text(desk.walls)


def tell_push(desk, things):
    """The push."""
    return ratio_text(push_of(desk.row))


def tell_energy(desk, things):
    """The energy."""
    return ratio_text(energy_of(desk.row))


def tell_middle(desk, things):
    """The middle."""
    return ratio_text(middle_of(desk.row))


def group_text(group):
    """The text of a group."""
    first, last, where = group
    side = "-" if where == "" else where
    return f"{first} {last} {side}"


def tell_next(desk, things):
    """The next coming, or that there is none."""
    found = next_coming(desk.row, desk.walls)
    if found is None:
        return "never"
    moment, groups = found
    return ratio_text(moment) + ": " + ", ".join([group_text(group) for group in groups])


def tell_count(desk, things):
    """The meetings, and the knocks at low and at high, by a moment."""
    return " ".join([number_text(number) for number in counted(desk.row, desk.walls, things[0])])


def tell_at(desk, things):
    """Place and speed of a ball at a moment; NoBall ahead of all."""
    k, t = things
    refuse_no_ball(len(desk.row), k)
    row = at_once(desk.row, desk.walls, t) if is_plain(desk.row, desk.walls) else gone(desk.row, desk.walls, t)[0]
    return ratio_text(row[k][0]) + " " + ratio_text(row[k][1])


def tell_round(desk, things):
    """The round, or that no ball moves."""
    found = round_of(desk.row, desk.walls)
    return "rest" if found is None else ratio_text(found[0])


def tell_when(desk, things):
    """The first moment at which a ball is at a place, or that it never is."""
    k, place, t = things
    word, told = when(desk.row, desk.walls, k, place, t)
    return ratio_text(told) if word == "at" else "never"


def tell_aims(desk, things):
    """Where one ball more may begin."""
    speed, k, place, t = things
    stretches = aims(desk.row, desk.walls, speed, k, place, t)
    if len(stretches) == 0:
        return "none"
    return ", ".join([ratio_text(first) + " " + ratio_text(last) for first, last in stretches])


def tell_most(desk, things):
    """The most of three weights."""
    return number_text(most_of(tuple(things))[0])


DEEDS = {
    "go": go_on,
    "turn": turn_about,
    "frame": frame_by,
    "back": take_back,
    "show": tell_row,
    "walls": tell_walls,
    "push": tell_push,
    "energy": tell_energy,
    "middle": tell_middle,
    "next": tell_next,
    "count": tell_count,
    "at": tell_at,
    "round": tell_round,
    "when": tell_when,
    "aims": tell_aims,
    "most": tell_most,
}


def read_word(kind, word):
    """What a word of this kind says; NoText."""
    reader = READERS[kind]
    return reader(word)


def read_words(kinds, words):
    """What the words of an order say; NoOrder unless they are of these kinds."""
    if len(words) != len(kinds):
        raise NoOrder("there are too many words, or too few")
    try:
        return [read_word(kind, word) for kind, word in zip(kinds, words)]
    except NoText:
        raise NoOrder("a word doesn't say what it should") from None


def answer(desk, text):
    """What the desk answers to an order; what is refused leaves it as it was."""
    order, *words = text.split(" ")
    if order not in WORDS:
        raise NoOrder("there is no such order")
    things = read_words(WORDS[order], words)
    if desk.row is None and order not in WITHOUT_ROW:
        raise NoRow("there is no row")
    deed = DEEDS[order]
    return deed(desk, things)


class Desk:
    """Walls, at first none, and a row, at first None, and what both were ahead of each deed that is left."""

    def __init__(self):
        self.walls = (None, None)
        self.row = None
        self.past = []

    def say(self, row):
        """The answer to a row of words; NoOrder, NoText, NoRow, NoPast, then as the functions refuse."""
        if not isinstance(row, str):
            raise NoOrder("this is no text")
        order, blank, rest = row.partition(" ")
        if order == "walls" and blank == " ":
            return set_walls(self, rest)
        if order == "row" and blank == " ":
            return set_row(self, rest)
        return answer(self, row)
