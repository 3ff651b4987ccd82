"""Rooms, points and headings as texts, told and read."""

from bouncewise.errors import NoText
from bouncewise.headings import heading_of
from bouncewise.points import as_point, divisor, point_of, time_of
from bouncewise.rooms import Room
from bouncewise.walls import Door, Glass, Hole, Mirror

FIGURES = "0123456789"
MOST_FIGURES = 60
WORDS_WITHOUT_NUMBER = ("mirror", "glass", "hole")


def fraction_text(top, bottom):
    return f"{top}" if bottom == 1 else f"{top}/{bottom}"


def point_text(P):
    x = time_of(P[0], P[2])
    y = time_of(P[1], P[2])
    return fraction_text(x[0], x[1]) + "," + fraction_text(y[0], y[1])


def heading_text(heading):
    return ",".join([str(number) for number in heading])


def wall_text(wall):
    words = [wall.word()]
    if wall.word() == "door":
        words.append(str(wall.every()))
    return " ".join(words + [point_text(as_point(wall.one)), point_text(as_point(wall.two))])


def room_text(room):
    return "; ".join([wall_text(wall) for wall in room.walls()])


def check_is_text(text):
    if not isinstance(text, str):
        raise NoText("what is to be read is not a text")


# The signs are looked at ahead of int, which reads more than is written here: blanks, other figures, a plus.
def read_whole(text):
    figures = text[1:] if text.startswith("-") else text
    if len(figures) < 1 or len(figures) > MOST_FIGURES:
        raise NoText("a whole number has one to sixty figures")
    if not all([sign in FIGURES for sign in figures]):
        raise NoText("a whole number is written in figures")
    if figures.startswith("0") and text != "0":
        raise NoText("a whole number has no nought ahead and nought no sign")
    return int(text)


def read_fraction(text):
    parts = text.split("/")
    if len(parts) == 1:
        return (read_whole(text), 1)
    if len(parts) > 2:
        raise NoText("a fraction has one top and one bottom")
    top = read_whole(parts[0])
    bottom = read_whole(parts[1])
    if bottom < 2 or divisor(top, bottom) != 1:
        raise NoText("a fraction has a bottom from 2 on and cannot be made shorter")
    return (top, bottom)


def two_parts(text):
    parts = text.split(",")
    if len(parts) != 2:
        raise NoText("two numbers stand with a comma between")
    return parts


def read_point(text):
    check_is_text(text)
    parts = two_parts(text)
    x = read_fraction(parts[0])
    y = read_fraction(parts[1])
    return point_of(x[0] * y[1], y[0] * x[1], x[1] * y[1])


def read_two_wholes(text):
    parts = two_parts(text)
    return (read_whole(parts[0]), read_whole(parts[1]))


def read_heading(text):
    check_is_text(text)
    numbers = read_two_wholes(text)
    return heading_of(numbers[0], numbers[1])


# Tells the word, the number (None for all but doors) and the two ends; no wall is made yet.
def read_wall(text):
    words = text.split(" ")
    if words[0] == "door" and len(words) == 4:
        return ("door", read_whole(words[1]), read_two_wholes(words[2]), read_two_wholes(words[3]))
    if words[0] in WORDS_WITHOUT_NUMBER and len(words) == 3:
        return (words[0], None, read_two_wholes(words[1]), read_two_wholes(words[2]))
    raise NoText("a wall is written as its word, a door's number and its ends")


def made_wall(word, number, one, two):
    if word == "mirror":
        return Mirror(one, two)
    if word == "glass":
        return Glass(one, two)
    if word == "hole":
        return Hole(one, two)
    return Door(one, two, number)


def read_room(text):
    check_is_text(text)
    if text == "":
        return Room([])
    # All are read before the first is made, since NoText goes ahead of BadWall wherever it stands.
    parts = [read_wall(part) for part in text.split("; ")]
    return Room([made_wall(part[0], part[1], part[2], part[3]) for part in parts])
