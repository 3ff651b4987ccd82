"""The desk: keeps rooms by names, is told rows of words and answers each with a text."""

from bouncewise.drawings import drawn
from bouncewise.errors import NoName, NoRow, NoText, TooMany
from bouncewise.flights import flown
from bouncewise.meets import first_met
from bouncewise.papers import ways
from bouncewise.rounds import round_of
from bouncewise.texts import fraction_text, point_text, read_heading, read_point, read_room, read_whole, room_text

LETTERS = "abcdefghijklmnopqrstuvwxyz"
MOST_LETTERS = 8
GREATEST_NUMBER = 9999
MOST_FLOWN = 4000
MOST_LENGTH = 60

# What stands behind the first word: a name that needs no room, one that does, and what is read.
SHAPES = {
    "room": ("name", "text"),
    "drop": ("kept",),
    "show": ("kept",),
    "first": ("kept", "point", "heading"),
    "fly": ("kept", "point", "heading", "number"),
    "round": ("kept", "point", "heading"),
    "ways": ("kept", "point", "point", "number"),
    "draw": ("kept", "number", "number"),
}


def words_of(row):
    if not isinstance(row, str):
        raise NoRow("a row is a text")
    words = row.split(" ")
    # In TEXT blanks are signs like others, and none but TEXT may be without signs.
    if words[0] == "room":
        words = row.split(" ", 2)
    with_signs = words[:2] if words[0] == "room" else words
    if words[0] not in SHAPES or len(words) != 1 + len(SHAPES[words[0]]) or "" in with_signs:
        raise NoRow("the row is in shape none of those that a desk is told")
    return words


# No word is without signs here, since NoRow meets such rows.
def check_name(word):
    if len(word) > MOST_LETTERS or not all([sign in LETTERS for sign in word]):
        raise NoName("a name has one to eight small letters")


def read_number(word):
    number = read_whole(word)
    if number < 0 or number > GREATEST_NUMBER:
        raise NoText("a number of a row has at most four figures and is not below 0")
    return number


def read_word(kind, word):
    if kind == "text":
        return read_room(word)
    if kind == "point":
        return read_point(word)
    if kind == "heading":
        return read_heading(word)
    return read_number(word)


def check_number(number, most):
    if number > most:
        raise TooMany("the row's number is too great")


def time_text(t):
    return fraction_text(t[0], t[1])


def first_told(room, P, heading):
    met = first_met(room, P, heading)
    if met is None:
        return "none"
    return " ".join([time_text(met[0]), point_text(met[1])] + [str(number) for number in met[2]])


def hit_text(hit):
    return " ".join([str(hit[0]), time_text(hit[1]), point_text(hit[2])])


def fly_told(room, P, heading, most):
    check_number(most, MOST_FLOWN)
    told = flown(room, P, heading, most)
    word = "going" if told[1] is None else told[1][0]
    return "; ".join([hit_text(hit) for hit in told[0]] + [word])


def round_told(room, P, heading):
    told = round_of(room, P, heading)
    times = [] if told[1] is None else [time_text(told[1])]
    return " ".join([told[0]] + times + [str(told[2])])


def row_text(row):
    return "direct" if len(row) == 0 else "-".join([str(number) for number in row])


def ways_told(room, P, Q, most):
    check_number(most, MOST_LENGTH)
    told = ways(room, P, Q, most)
    return "none" if len(told) == 0 else " ".join([row_text(way[0]) for way in told])


def answer(word, room, values):
    if word == "show":
        return room_text(room)
    if word == "first":
        return first_told(room, values[0], values[1])
    if word == "fly":
        return fly_told(room, values[0], values[1], values[2])
    if word == "round":
        return round_told(room, values[0], values[1])
    if word == "ways":
        return ways_told(room, values[0], values[1], values[2])
    return ";".join(drawn(room, values[0], values[1]))


class Desk:
    def __init__(self):
        self.rooms = {}

    def say(self, row):
        words = words_of(row)
        values = [self.meant(kind, word) for kind, word in zip(SHAPES[words[0]], words[1:])]
        if words[0] == "room":
            return self.put(values[0], values[1])
        if words[0] == "drop":
            return self.drop(values[0])
        return answer(words[0], self.rooms[values[0]], values[1:])

    def meant(self, kind, word):
        if kind != "name" and kind != "kept":
            return read_word(kind, word)
        check_name(word)
        if kind == "kept" and word not in self.rooms:
            raise NoName("no room stands by the name")
        return word

    def put(self, name, room):
        self.rooms[name] = room
        return "ok"

    def drop(self, name):
        self.rooms.pop(name)
        return "ok"
