"""Points 2, 31 and 32 of the document, as bouncewise/drawings.py keeps them."""

import unittest
from fractions import Fraction
from itertools import product

from bouncewise.drawings import drawn, read_drawing
from bouncewise.errors import BadDrawing, OutOfBox, TooMany
from bouncewise.rooms import Room
from bouncewise.texts import read_room, room_text
from bouncewise.walls import Door, Glass, Hole, Mirror
from checks import BOX, ROOMS, box_of, check_arguments, check_refused, lies_on

KINDS = (Mirror, Glass, Hole, Door)

# Each line from corner to corner.
LEVEL = ["+---+"]
UPRIGHT = ["+", "|", "|", "|", "+"]
RISING = [
    ". . +",
    "   / ",
    ". / .",
    " /   ",
    "+ . .",
]
FALLING = [
    "+ . .",
    " \\   ",
    ". \\ .",
    "   \\ ",
    ". . +",
]

# Crossings in the middle of four and in whole points, ends within and at the ends of others.
MANY = read_room(
    "mirror 0,0 3,3; door 3 1,2 2,1; mirror 5,0 5,3; glass 4,1 6,1; mirror 2,3 3,3; mirror 1,3 2,3; hole 6,3 6,2; "
    "mirror 7,3 9,1; mirror 8,1 9,2"
)
MANY_DRAWN = [
    ". +-+-+ . + + + . .",
    "     /    | |  \\   ",
    ". + / . . | + . \\ +",
    "   X      |      X ",
    ". / + . +-+-+ . + +",
    " /        |        ",
    "+ . . . . + . . . .",
]
MANY_READ = [
    ((0, 0), (3, 3)), ((1, 2), (2, 1)), ((1, 3), (2, 3)), ((2, 3), (3, 3)), ((4, 1), (5, 1)), ((5, 0), (5, 1)),
    ((5, 1), (5, 3)), ((5, 1), (6, 1)), ((6, 2), (6, 3)), ((7, 3), (9, 1)), ((8, 1), (9, 2)),
]


# Counted in halves from (0, 0).
def sign_reckoned(room, right, up):
    walls = [wall for wall in room.walls() if lies_on(wall, Fraction(right, 2), Fraction(up, 2))]
    whole = right % 2 == 0 and up % 2 == 0
    if not walls:
        return "." if whole else " "
    if whole and (len(walls) > 1 or (right // 2, up // 2) in (walls[0].one, walls[0].two)):
        return "+"
    return "X" if len(walls) > 1 else "-/|\\"[walls[0].line()]


def drawn_reckoned(room, wide, high):
    return ["".join(sign_reckoned(room, right, up) for right in range(2 * wide + 1)) for up in range(2 * high, -1, -1)]


def put_up(room, right, up):
    ends = [(wall.one, wall.two) for wall in room.walls()]
    return Room([Mirror((x + right, y + up), (z + right, w + up)) for (x, y), (z, w) in ends])


# The pieces of its walls from corner to corner.
def shown_by(room):
    told = []
    for wall in room.walls():
        (left, low), (right, top) = wall.one, wall.two
        far = max(right - left, abs(top - low))
        points = [(left + (right - left) // far * step, low + (top - low) // far * step) for step in range(far + 1)]
        corners = [(x, y) for x, y in points if room.is_corner((x, y, 1))]
        told += zip(corners, corners[1:])
    return sorted(told)


def with_sign(rows, number, place, sign):
    told = list(rows)
    told[number] = told[number][:place] + sign + told[number][place + 1:]
    return told


class InterfaceTest(unittest.TestCase):
    def test_arguments(self):
        check_arguments(self, drawn, "room", "wide", "high")
        check_arguments(self, read_drawing, "rows")

    def test_arguments_by_name(self):
        self.assertEqual(drawn(room=Room([]), wide=1, high=0), [". ."])
        self.assertEqual(room_text(read_drawing(rows=["+-+"])), "mirror 0,0 1,0")


class DrawnTest(unittest.TestCase):
    def check(self, room, wide, high, rows):
        told = drawn(room, wide, high)
        self.assertEqual(told, rows)
        self.assertIs(type(told), list)
        self.assertEqual({type(row) for row in told}, {str})

    def test_without_walls(self):
        self.check(Room([]), 0, 0, ["."])
        self.check(Room([]), 2, 0, [". . ."])
        self.check(Room([]), 0, 1, [".", " ", "."])
        self.check(Room([]), 2, 1, [". . .", "     ", ". . ."])

    def test_each_line_of_each_kind(self):
        for kind in KINDS:
            self.check(Room([kind((0, 0), (2, 0))]), 2, 0, LEVEL)
            self.check(Room([kind((0, 0), (0, 2))]), 0, 2, UPRIGHT)
            self.check(Room([kind((0, 0), (2, 2))]), 2, 2, RISING)
            self.check(Room([kind((0, 2), (2, 0))]), 2, 2, FALLING)

    def test_the_shortest_of_each_line(self):
        self.check(Room([Mirror((0, 0), (1, 0))]), 1, 1, [". .", "   ", "+-+"])
        self.check(Room([Mirror((1, 0), (1, 1))]), 1, 1, [". +", "  |", ". +"])
        self.check(Room([Mirror((0, 0), (1, 1))]), 1, 1, [". +", " / ", "+ ."])
        self.check(Room([Mirror((0, 1), (1, 0))]), 1, 1, ["+ .", " \\ ", ". +"])

    def test_a_box_in_a_greater_drawing(self):
        self.check(BOX, 5, 4, [
            ". . . . . .",
            "           ",
            "+-------+ .",
            "|       |  ",
            "| . . . | .",
            "|       |  ",
            "| . . . | .",
            "|       |  ",
            "+-------+ .",
        ])

    def test_crossing_in_the_middle_of_four(self):
        for walls in ([Mirror((0, 0), (1, 1)), Hole((0, 1), (1, 0))], [Glass((0, 1), (1, 0)), Door((0, 0), (1, 1))]):
            self.check(Room(walls), 1, 1, ["+ +", " X ", "+ +"])

    def test_crossing_in_whole_points(self):
        self.check(Room([Mirror((0, 1), (2, 1)), Mirror((1, 0), (1, 2))]), 2, 2, [
            ". + .",
            "  |  ",
            "+-+-+",
            "  |  ",
            ". + .",
        ])
        self.check(Room([Mirror((0, 0), (2, 2)), Mirror((2, 0), (0, 2))]), 2, 2, [
            "+ . +",
            " \\ / ",
            ". + .",
            " / \\ ",
            "+ . +",
        ])
        self.check(Room([Mirror((0, 0), (2, 2)), Mirror((2, 1), (0, 1))]), 2, 2, [
            ". . +",
            "   / ",
            "+-+-+",
            " /   ",
            "+ . .",
        ])

    def test_touching_walls(self):
        # An end in the middle of another wall, and two that go on straight from one another.
        self.check(Room([Mirror((0, 0), (2, 0)), Glass((1, 0), (1, 1))]), 2, 1, [". + .", "  |  ", "+-+-+"])
        self.check(Room([Mirror((0, 0), (1, 0)), Hole((1, 0), (2, 0))]), 2, 0, ["+-+-+"])
        self.check(Room([Mirror((0, 0), (1, 0)), Hole((2, 0), (3, 0))]), 3, 0, ["+-+ +-+"])

    def test_many(self):
        self.check(MANY, 9, 3, MANY_DRAWN)

    def test_every_sign_of_some_rooms(self):
        rooms = [(room, 15, 15) for room in (put_up(ROOMS[1], 2, 0), put_up(ROOMS[3], 1, 2), put_up(BOX, 3, 9), MANY)]
        for room, wide, high in rooms + [(put_up(ROOMS[2], 9, 9), 24, 15)]:
            self.check(room, wide, high, drawn_reckoned(room, wide, high))

    def test_sides_of_nought_and_forty(self):
        for wide, high in product((0, 1, 39, 40), repeat=2):
            told = drawn(Room([]), wide, high)
            self.assertEqual([len(row) for row in told], [2 * wide + 1] * (2 * high + 1))
        self.check(box_of(40, 40), 40, 40, drawn_reckoned(box_of(40, 40), 40, 40))

    def test_forty_walls(self):
        room = Room([Mirror((0, height), (20, height)) for height in range(20)]
                    + [Glass((right, 0), (right, 20)) for right in range(1, 21)])
        self.check(room, 20, 20, drawn_reckoned(room, 20, 20))

    def test_what_is_told_is_the_askers(self):
        drawn(MANY, 9, 3).clear()
        self.check(MANY, 9, 3, MANY_DRAWN)


class NotDrawnTest(unittest.TestCase):
    def test_above_forty(self):
        for room in (Room([]), BOX, box_of(50, 50), put_up(BOX, -1, -1)):
            for wide, high in ((41, 40), (40, 41), (41, 41), (41, 0), (0, 41), (1000, 3), (3, 10 ** 60)):
                check_refused(self, TooMany, drawn, room, wide, high)

    def test_an_end_below_nought(self):
        ends = (((-1, 0), (2, 0)), ((0, -1), (0, 2)), ((-1, 1), (1, 3)), ((1, 1), (3, -1)), ((-1, 3), (3, -1)))
        for one, two in ends:
            for kind in KINDS:
                check_refused(self, OutOfBox, drawn, Room([kind(one, two)]), 9, 9)
                check_refused(self, OutOfBox, drawn, Room([Mirror((0, 5), (3, 5)), kind(one, two)]), 9, 9)

    def test_an_end_beyond_the_width_or_the_height(self):
        for wide, high in ((3, 3), (4, 2), (0, 3), (4, 0), (3, 40), (40, 2), (0, 0)):
            check_refused(self, OutOfBox, drawn, BOX, wide, high)
        self.assertEqual(len(drawn(BOX, 4, 3)), 7)

    def test_one_end_of_one_wall(self):
        within = [Mirror((0, 0), (3, 0)), Mirror((1, 1), (2, 2))]
        for one, two in (((2, 1), (4, 1)), ((2, 1), (2, 3)), ((1, 0), (4, 3)), ((0, 3), (3, 0)), ((4, 0), (4, 1))):
            check_refused(self, OutOfBox, drawn, Room(within + [Glass(one, two)]), 3, 2)
            check_refused(self, OutOfBox, drawn, Room([Glass(one, two)] + within), 3, 2)

    def test_walls_far_out(self):
        check_refused(self, OutOfBox, drawn, Room([Mirror((-1000, -1000), (1000, 1000))]), 40, 40)
        check_refused(self, OutOfBox, drawn, Room([Mirror((500, 500), (500, 501))]), 40, 40)


class ReadTest(unittest.TestCase):
    def check(self, rows, ends):
        handed = list(rows)
        room = read_drawing(handed)
        self.assertIsInstance(room, Room)
        self.assertEqual([(wall.word(), wall.one, wall.two) for wall in room.walls()],
                         [("mirror", one, two) for one, two in ends])
        self.assertEqual(handed, list(rows))

    def test_without_walls(self):
        self.check(["."], [])
        self.check([". . .", "     ", ". . ."], [])
        self.check([".", " ", "."], [])

    def test_each_line(self):
        self.check(LEVEL, [((0, 0), (2, 0))])
        self.check(UPRIGHT, [((0, 0), (0, 2))])
        self.check(RISING, [((0, 0), (2, 2))])
        self.check(FALLING, [((0, 2), (2, 0))])

    def test_from_one_corner_to_the_next(self):
        self.check(["+-+---+-+"], [((0, 0), (1, 0)), ((1, 0), (3, 0)), ((3, 0), (4, 0))])
        self.check(["+", "|", "+", "|", "|", "|", "+"], [((0, 0), (0, 2)), ((0, 2), (0, 3))])
        self.check(["+-+ +-+"], [((0, 0), (1, 0)), ((2, 0), (3, 0))])

    def test_crossings(self):
        self.check(["+ +", " X ", "+ +"], [((0, 0), (1, 1)), ((0, 1), (1, 0))])
        self.check([". + .", "  |  ", "+-+-+", "  |  ", ". + ."],
                   [((0, 1), (1, 1)), ((1, 0), (1, 1)), ((1, 1), (1, 2)), ((1, 1), (2, 1))])
        self.check(["+ . +", " \\ / ", ". + .", " / \\ ", "+ . +"],
                   [((0, 0), (1, 1)), ((0, 2), (1, 1)), ((1, 1), (2, 0)), ((1, 1), (2, 2))])

    def test_all_eight_ways_from_one_corner(self):
        self.check(["+ + +", " \\|/ ", "+-+-+", " /|\\ ", "+ + +"], [
            ((0, 0), (1, 1)), ((0, 1), (1, 1)), ((0, 2), (1, 1)), ((1, 0), (1, 1)), ((1, 1), (1, 2)), ((1, 1), (2, 0)),
            ((1, 1), (2, 1)), ((1, 1), (2, 2)),
        ])

    def test_sorted_by_the_lesser_ends_then_by_the_greater(self):
        self.check(["+---+", "|\\ /|", "| + |", "|/ \\|", "+---+"], [
            ((0, 0), (0, 2)), ((0, 0), (1, 1)), ((0, 0), (2, 0)), ((0, 2), (1, 1)), ((0, 2), (2, 2)), ((1, 1), (2, 0)),
            ((1, 1), (2, 2)), ((2, 0), (2, 2)),
        ])
        self.check([". . +-+", "       ", "+-+ . .", "       ", ". +-+ ."],
                   [((0, 1), (1, 1)), ((1, 0), (2, 0)), ((2, 2), (3, 2))])

    def test_many(self):
        self.check(MANY_DRAWN, MANY_READ)

    def test_what_is_drawn_is_read(self):
        for room, wide, high in (
            (put_up(ROOMS[1], 2, 0), 9, 6), (put_up(ROOMS[2], 9, 9), 24, 15), (put_up(ROOMS[3], 1, 2), 15, 15),
            (MANY, 9, 3), (BOX, 4, 3), (put_up(BOX, 36, 37), 40, 40), (Room([]), 40, 0),
            (Room([Door((0, 0), (40, 40))]), 40, 40),
        ):
            self.check(drawn(room, wide, high), shown_by(room))

    def test_what_is_read_is_drawn(self):
        for rows in (LEVEL, UPRIGHT, RISING, FALLING, MANY_DRAWN, ["."], ["+ +", " X ", "+ +"]):
            wide, high = len(rows[0]) // 2, len(rows) // 2
            self.assertEqual(drawn(read_drawing(rows), wide, high), rows)

    def test_the_greatest(self):
        level = "+" + "-" * 79 + "+"
        blank = ". " * 40 + "."
        between = " " * 81
        self.check([level], [((0, 0), (40, 0))])
        self.check([level] + [between, blank] * 40, [((0, 40), (40, 40))])
        self.check(["+"] + ["|"] * 79 + ["+"], [((0, 0), (0, 40))])

    def test_a_list_altered_afterwards(self):
        rows = list(LEVEL)
        room = read_drawing(rows)
        rows.clear()
        self.assertEqual(room_text(room), "mirror 0,0 2,0")


class TooManyTest(unittest.TestCase):
    ROW = "+-" * 40 + "+"

    def below(self, *places):
        return "".join("|" if right // 2 in places and right % 2 == 0 else " " for right in range(81))

    def low(self, *places):
        return " ".join("+" if right in places else "." for right in range(41))

    def test_forty(self):
        self.assertEqual(len(read_drawing([self.ROW]).walls()), 40)

    def test_forty_one(self):
        check_refused(self, TooMany, read_drawing, [self.ROW, self.below(7), self.low(7)])
        check_refused(self, TooMany, read_drawing, [self.ROW, " " * 81, self.ROW])

    def test_very_many(self):
        check_refused(self, TooMany, read_drawing, [self.ROW, "|X" * 40 + "|"] * 40 + [self.ROW])

    def test_no_drawing_goes_first(self):
        check_bad(self, [self.ROW, self.below(7), self.low(8)], 2)
        check_bad(self, [self.ROW, self.below(7)], 0)


def check_bad(case, rows, number):
    check_refused(case, BadDrawing, read_drawing, rows)
    with case.assertRaises(BadDrawing) as caught:
        read_drawing(rows)
    case.assertEqual(caught.exception.row, number)
    case.assertIs(type(caught.exception.row), int)


class SizesTest(unittest.TestCase):
    def check(self, rows, number):
        check_bad(self, rows, number)

    def test_numbers_of_rows(self):
        for number in (0, 2, 4, 80, 82, 83, 84, 101, 160):
            self.check([[".", " "][row % 2] for row in range(number)], 0)
        for number in (1, 3, 79, 81):
            self.assertEqual(read_drawing([[".", " "][row % 2] for row in range(number)]).walls(), [])

    def test_numbers_of_signs(self):
        for number in (0, 2, 4, 80, 82, 83, 84, 101, 160):
            row = "".join([". "[place % 2] for place in range(number)])
            self.check([row], 0)
            self.check([row, " " * number, row], 0)
        for number in (1, 3, 79, 81):
            self.assertEqual(read_drawing(["".join([". "[place % 2] for place in range(number)])]).walls(), [])

    def test_another_row_has_not_as_many(self):
        self.check([". .", "  ", ". ."], 1)
        self.check([". .", "    ", ". ."], 1)
        self.check([". .", " ", ". ."], 1)
        self.check([". .", "     ", ". ."], 1)
        self.check([". .", "   ", "."], 2)
        self.check([". .", "   ", ""], 2)
        self.check([".", " ", ". ."], 2)
        self.check([". .", "   ", ". .", "", "."], 3)
        self.check([".", "   ", ". ."], 1)

    def test_the_first_row_goes_ahead_of_the_others(self):
        self.check(["", "   ", ". ."], 0)
        self.check([". ", "   ", ". ."], 0)
        self.check(["." * 83, " ", "."], 0)

    def test_the_number_of_rows_goes_ahead_of_the_signs_of_rows(self):
        self.check([".", "  "], 0)
        self.check([".", "*", ".", "  "], 0)
        self.check(["."] + [" ", "..", "."] * 27 + ["."], 0)

    def test_the_numbers_of_signs_go_ahead_of_the_signs(self):
        self.check(["*", " ", ". ."], 2)
        self.check(["+", "*", "."] + [" ", ""], 4)
        self.check(["+-.", "   ", ". .", "  ", ". ."], 3)


class SignsTest(unittest.TestCase):
    def check(self, rows, number):
        check_bad(self, rows, number)

    def test_nothing_leads_there(self):
        self.check(["+"], 0)
        for sign in "+-|/\\X *x":
            self.check([sign], 0)
            self.check([". . .", "     ", ". " + sign + " ."], 2)

    def test_a_point_where_a_sign_leads(self):
        self.check(["+-."], 0)
        self.check([".-+"], 0)
        self.check(["+", "|", "."], 2)
        self.check([".", "|", "+"], 0)
        self.check([". .", " / ", "+ ."], 0)
        self.check([". +", " / ", ". ."], 2)
        self.check([". .", " \\ ", ". +"], 0)
        self.check(["+ .", " \\ ", ". ."], 2)

    def test_a_crossing_leads_four_ways(self):
        self.check([". +", " X ", "+ +"], 0)
        self.check(["+ .", " X ", "+ +"], 0)
        self.check(["+ +", " X ", ". +"], 2)
        self.check(["+ +", " X ", "+ ."], 2)

    def test_a_line_that_does_not_go_on(self):
        self.check(["+--"], 0)
        self.check(["--+"], 0)
        self.check(["+", "|", "|"], 2)
        self.check(["|", "|", "+"], 0)
        self.check([". /", " / ", "+ ."], 0)
        self.check([". +", " / ", "/ ."], 2)
        self.check(["\\ .", " \\ ", ". +"], 0)
        self.check(["+ .", " \\ ", ". \\"], 2)
        self.check(["+-- ."], 0)

    def test_a_sign_of_another_line(self):
        for sign in "|/\\X. ":
            self.check(["+-" + sign + "-+"], 0)
        for sign in "-/\\X. ":
            self.check(["+", "|", sign, "|", "+"], 2)
        for sign in "-|\\X. ":
            self.check(with_sign(RISING, 2, 2, sign), 2)
        for sign in "-|/X. ":
            self.check(with_sign(FALLING, 2, 2, sign), 2)

    def test_a_corner_may_stand_where_a_line_goes_through(self):
        for rows in (with_sign(LEVEL, 0, 2, "+"), with_sign(UPRIGHT, 2, 0, "+"), with_sign(RISING, 2, 2, "+"),
                     with_sign(FALLING, 2, 2, "+")):
            self.assertEqual(len(read_drawing(rows).walls()), 2)

    def test_where_others_lead_too_a_corner_stands(self):
        self.check(["+---+", "  |  ", ". + ."], 0)
        self.check([". + .", "  |  ", "+-|-+", "  |  ", ". + ."], 2)
        self.check(["+ . +", " \\ / ", ". / .", " / \\ ", "+ . +"], 2)
        self.check(["+ . +", " \\ / ", ". X .", " / \\ ", "+ . +"], 2)
        self.check(["+-- .", "   \\ ", ". . +"], 0)
        self.check([". + .", "  |  ", "+-- .", "     ", ". . ."], 2)

    def test_halfway_in_a_row_of_whole_points(self):
        for sign in ".+|/\\X*_":
            self.check(["." + sign + "."], 0)
            self.check([". .", "   ", "." + sign + "."], 2)
            self.check(["+" + sign + "+"], 0)

    def test_halfway_below_and_above_whole_points(self):
        for sign in ".+-/\\X*!":
            self.check([".", sign, "."], 1)
            self.check([". .", "  " + sign, ". ."], 1)
            self.check(["+", sign, "+"], 0)

    def test_in_the_middle_of_four(self):
        for sign in ".+-|*x":
            self.check([". .", " " + sign + " ", ". ."], 1)
            self.check(["+ +", " " + sign + " ", "+ +"], 0)

    def test_other_signs(self):
        plain = [chr(number) for number in range(33, 127) if chr(number) not in ".+-|/\\X"]
        for sign in plain + ["\n", "\t", "\u2502", "\u00a0", "\0"]:
            self.check([sign], 0)
            self.check([". .", sign + "  ", ". ."], 1)
            self.check([". .", " " + sign + " ", ". ."], 1)
            self.check([". .", "   ", "." + sign + "."], 2)

    def test_the_first_row_that_has_one(self):
        self.check([". .", "  *", "* ."], 1)
        self.check([". .", "*  ", "*  "], 1)
        self.check([". .", "   ", "* .", "*  ", ". ."], 2)
        # The row below leads to one that stands ill in the row above.
        self.check([". .", "   ", ". .", "|* ", "+ ."], 2)

    def test_every_sign_at_every_place(self):
        for rows in (MANY_DRAWN, RISING, [". . .", "     ", ". . ."], ["+ + +", " \\|/ ", "+-+-+", " /|\\ ", "+ + +"]):
            for number, row in enumerate(rows):
                for place in range(len(row)):
                    for sign in " .+-|/\\X*":
                        self.check_altered(with_sign(rows, number, place, sign))

    def check_altered(self, rows):
        number = bad_row_reckoned(rows)
        if number is None:
            wide, high = len(rows[0]) // 2, len(rows) // 2
            self.assertEqual(drawn(read_drawing(rows), wide, high), rows)
        else:
            self.check(rows, number)


# By what each sign, as it stands by itself, leads to: the whole points in halves, and the line.
LED_TO = {"-": ((0, 0, 1), (0, 0, -1)), "|": ((2, 1, 0), (2, -1, 0)), "/": ((1, 1, -1), (1, -1, 1)),
          "\\": ((3, 1, 1), (3, -1, -1)), " ": ()}
LED_TO["X"] = LED_TO["/"] + LED_TO["\\"]
HALFWAY = {(0, 1): " -", (1, 0): " |", (1, 1): " /\\X"}


def bad_row_reckoned(rows):
    led, bad = {}, []
    for number, row in enumerate(rows):
        for place, sign in enumerate(row):
            if sign not in HALFWAY.get((number % 2, place % 2), sign):
                bad.append(number)
            for line, down, right in LED_TO.get(sign, ()):
                led.setdefault((number + down, place + right), []).append(line)
    for number, row in enumerate(rows):
        for place, sign in enumerate(row):
            if (number % 2, place % 2) == (0, 0):
                lines = led.get((number, place), [])
                through = "-/|\\"[lines[0]] if len(lines) == 2 and lines[0] == lines[1] else ""
                if sign not in ("+" + through if lines else "."):
                    bad.append(number)
    return min(bad, default=None)


if __name__ == "__main__":
    unittest.main()
