"""Texts of ratios, rows and walls, and what is read from them."""

from clackrow.errors import NoText
from clackrow.ratios import is_ratio
from clackrow.rows import is_row, walls_good

FIGURES = "0123456789"
MOST_FIGURES = 300
OPEN = (None, None)


def number_text(number):
    """The text of a whole number."""
    if number < 0:
        return "-" + number_text(-number)
    # By pieces, as Python refuses to write numbers of some thousand figures.
    pieces = []
    while number >= 10 ** 60:
        number, rest = divmod(number, 10 ** 60)
        pieces.append(str(rest).zfill(60))
    return str(number) + "".join(pieces[::-1])


def ratio_text(one):
    """The text of a ratio."""
    top, bottom = one
    if bottom == 1:
        return number_text(top)
    return number_text(top) + "/" + number_text(bottom)


def ball_text(ball):
    """The text of a ball."""
    place, speed, weight = ball
    return f"{ratio_text(place)} {ratio_text(speed)} {weight}"


def row_text(row):
    """The text of a row."""
    return "; ".join([ball_text(ball) for ball in row])


def wall_text(wall):
    """The text of one wall, that may not be there."""
    if wall is None:
        return "-"
    return f"{ratio_text(wall[0])} {ratio_text(wall[1])}"


def walls_text(walls):
    """The text of walls."""
    return " | ".join([wall_text(wall) for wall in walls])


def parts_of(thing, sign, many):
    """The parts of a text between the signs; NoText unless it is a text and has just so many, or many is None."""
    if not isinstance(thing, str):
        raise NoText("this is no text")
    parts = thing.split(sign)
    if many is not None and len(parts) != many:
        raise NoText("the text has too many parts, or too few")
    return parts


def read_number(text, most):
    """The whole number from 0 on that a text of at most so many figures writes; NoText."""
    if not 1 <= len(text) <= most or not all([sign in FIGURES for sign in text]):
        raise NoText("this is no number, or a number of too many figures")
    if text != "0" and text.startswith("0"):
        raise NoText("a number has no 0 ahead")
    return int(text)


def read_whole(text):
    """The whole number that a text writes; NoText."""
    if not text.startswith("-"):
        return read_number(text, MOST_FIGURES)
    number = read_number(text[1:], MOST_FIGURES)
    if number == 0:
        raise NoText("0 has no sign")
    return -number


def read_ratio(thing):
    """The ratio that a text writes; NoText."""
    parts = parts_of(thing, "/", None)
    if len(parts) == 1:
        return (read_whole(thing), 1)
    if len(parts) > 2:
        raise NoText("a ratio has one bottom")
    one = (read_whole(parts[0]), read_number(parts[1], MOST_FIGURES))
    if one[1] == 1 or not is_ratio(one):
        raise NoText("a ratio is written in lowest terms, and a bottom of 1 is not")
    return one


def read_ball(text):
    """The ball that a text writes, of whatever weight; NoText."""
    place, speed, weight = parts_of(text, " ", 3)
    return (read_ratio(place), read_ratio(speed), read_number(weight, MOST_FIGURES))


def read_row(thing):
    """The row that a text writes, wherever walls are; NoText."""
    row = tuple([read_ball(part) for part in parts_of(thing, "; ", None)])
    if not is_row(OPEN, row):
        raise NoText("the balls make no row")
    return row


def wall_read(text):
    """The wall that a text writes, that may not be there; NoText."""
    if text == "-":
        return None
    place, speed = parts_of(text, " ", 2)
    return (read_ratio(place), read_ratio(speed))


def walls_read(thing):
    """The walls that a text writes; NoText."""
    low, high = parts_of(thing, " | ", 2)
    walls = (wall_read(low), wall_read(high))
    if not walls_good(walls):
        raise NoText("low is not below high")
    return walls
