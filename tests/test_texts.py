"""Point 14 of the document, as bouncewise/texts.py keeps it."""

import unittest

from bouncewise.errors import BadWall, NoText, NoWay, Overlap, TooMany
from bouncewise.rooms import Room
from bouncewise.texts import heading_text, point_text, read_heading, read_point, read_room, room_text
from bouncewise.walls import Door, Glass, Hole, Mirror
from checks import GREAT, check_arguments, check_refused, check_whole_numbers

SIXTY = 10 ** 60 - 1
SIXTY_ONE = 10 ** 60
NOT_TEXTS = (
    None, True, False, 0, 5, -1, 1.5, GREAT, 10 ** 5000, b"", b"1,2", [], ["1,2"], (), (1, 2), (1, 2, 1), ("1,2",),
    {}, {"1,2": 1}, set(), object(), str, Room([]), Mirror((0, 0), (1, 0)),
)
# What is no whole number, wherever one should stand.
NOT_NUMBERS = (
    "", " ", "-", "--1", "+1", "-0", "00", "01", "-01", "1 ", " 1", "1-", "- 1", "1.0", "1e3", "1_0", "0x1", "x", "one",
    "1\n", "\n1", "1\t", "\u0661", "\u00b2", "\uff11", "-\u0661", "\u22121", "1\u0661", "\ud800", "\x00", "1\x00",
    str(SIXTY_ONE), str(-SIXTY_ONE), "1" * 61, "-" + "9" * 61, "0" * 60 + "1", "9" * 5000, "-" + "9" * 5000, "1;", "()",
)
NOT_FRACTIONS = (
    "1/1", "1/0", "0/1", "0/0", "0/2", "0/5", "2/4", "-2/4", "6/3", "-6/3", "3/3", "1/-2", "-1/-2", "1/", "/2", "/",
    "1/2/3", "1//2", "1/02", "01/2", "-0/2", "1 /2", "1/ 2", "1/+2", "+1/2", "1/x", "x/2", "--1/2", "1/\u0662",
    f"1/{SIXTY_ONE}", f"{SIXTY_ONE}/7", f"-{SIXTY_ONE}/7", "9" * 5000 + "/2", "1/" + "9" * 5000,
    f"{2 * 10 ** 59}/{4 * 10 ** 59}",
)


def shape(room):
    return [(wall.word(), wall.every(), wall.one, wall.two) for wall in room.walls()]


class InterfaceTest(unittest.TestCase):
    def test_arguments(self):
        for asked in (read_room, read_point, read_heading):
            check_arguments(self, asked, "text")
        check_arguments(self, room_text, "room")
        check_arguments(self, point_text, "P")
        check_arguments(self, heading_text, "heading")


class PointTest(unittest.TestCase):
    def check(self, P, text):
        self.assertEqual(point_text(P), text)
        self.assertIs(type(point_text(P)), str)
        self.check_read(text, P)

    def check_read(self, text, P):
        point = read_point(text)
        self.assertEqual(point, P)
        check_whole_numbers(self, point, 3)

    def test_whole_points(self):
        for x, y in ((0, 0), (3, -4), (-10, 100), (-1, 0), (SIXTY, -SIXTY)):
            self.check((x, y, 1), f"{x},{y}")

    def test_fractions(self):
        self.check((1, 3, 2), "1/2,3/2")
        self.check((1, 2, 2), "1/2,1")
        self.check((-6, 9, 2), "-3,9/2")
        self.check((0, -1, 3), "0,-1/3")
        self.check((3, 4, 6), "1/2,2/3")
        self.check((-3, 10, 12), "-1/4,5/6")
        self.check((15, 10, 6), "5/2,5/3")
        self.check((1, 0, 10), "1/10,0")

    def test_numbers_of_sixty_figures(self):
        self.check((1, -1, SIXTY), f"1/{SIXTY},-1/{SIXTY}")
        self.check((SIXTY, 1 - SIXTY, 10 ** 59), f"{SIXTY}/{10 ** 59},{(1 - SIXTY) // 2}/{10 ** 59 // 2}")
        bottom = SIXTY * (SIXTY - 1)
        self.check((SIXTY - 1, -SIXTY, bottom), f"1/{SIXTY},-1/{SIXTY - 1}")

    def test_told_with_as_many_figures_as_needed(self):
        self.assertEqual(point_text((GREAT, -GREAT, 1)), f"{GREAT},-{GREAT}")
        self.assertEqual(point_text((1, GREAT - 1, GREAT)), f"1/{GREAT},{GREAT - 1}/{GREAT}")
        self.assertEqual(point_text((10 ** 300 + 1, 0, 10 ** 299)), f"{10 ** 300 + 1}/{10 ** 299},0")

    def test_small_points_all_ways(self):
        for x in range(-7, 8):
            for w in range(2, 7):
                self.check((x, 1, w), point_text((x, 1, w)))
                self.check((1, x, w), point_text((1, x, w)))

    def test_no_points(self):
        for part in NOT_NUMBERS + NOT_FRACTIONS:
            with self.subTest(part=part):
                check_refused(self, NoText, read_point, f"{part},1")
                check_refused(self, NoText, read_point, f"1,{part}")
                check_refused(self, NoText, read_point, f"1/2,{part}")
                check_refused(self, NoText, read_point, part)

    def test_no_two_numbers(self):
        for text in ("", ",", "1", "1,", ",1", "1,2,3", "1,,2", "1;2", "1 2", "1, 2", "1 ,2", " 1,2", "1,2 ", "1,2\n",
                     "(1,2)", "1,2,1", "1/2", "1/2 1/2", "mirror 0,0 1,1", "1,2;", "1\uff0c2", "9" * 10 ** 5):
            check_refused(self, NoText, read_point, text)

    def test_no_texts(self):
        for thing in NOT_TEXTS:
            check_refused(self, NoText, read_point, thing)


class HeadingTest(unittest.TestCase):
    def check(self, heading, text):
        self.assertEqual(heading_text(heading), text)
        self.assertIs(type(heading_text(heading)), str)
        self.check_read(text, heading)

    def check_read(self, text, told):
        heading = read_heading(text)
        self.assertEqual(heading, told)
        check_whole_numbers(self, heading, 2)

    def test_without_a_divisor(self):
        for a, b in ((1, 0), (0, -1), (2, -3), (-10, 7), (-1, -1), (SIXTY, 1 - SIXTY), (-SIXTY, 1)):
            self.check((a, b), f"{a},{b}")

    def test_with_a_divisor(self):
        self.check_read("4,6", (2, 3))
        self.check_read("-4,6", (-2, 3))
        self.check_read("0,-7", (0, -1))
        self.check_read("5,0", (1, 0))
        self.check_read("-9,-9", (-1, -1))
        self.check_read(f"{SIXTY},-{SIXTY}", (1, -1))
        self.check_read(f"-{10 ** 59},{4 * 10 ** 58}", (-5, 2))

    def test_told_with_as_many_figures_as_needed(self):
        self.assertEqual(heading_text((GREAT, 1 - GREAT)), f"{GREAT},{1 - GREAT}")

    def test_of_two_noughts(self):
        check_refused(self, NoWay, read_heading, "0,0")

    def test_no_headings(self):
        for part in NOT_NUMBERS + NOT_FRACTIONS + ("1/2", "-3/2", "5/7"):
            with self.subTest(part=part):
                check_refused(self, NoText, read_heading, f"{part},1")
                check_refused(self, NoText, read_heading, f"1,{part}")
                check_refused(self, NoText, read_heading, f"0,{part}")
                check_refused(self, NoText, read_heading, part)

    def test_no_two_numbers(self):
        for text in ("", ",", "1", "0", "1,", ",1", "1,2,3", "0,0,0", "1,,2", "1 2", "1, 2", " 1,2", "1,2 ", "1,2\n",
                     "0,0 ", "0,-0", "0,00"):
            check_refused(self, NoText, read_heading, text)

    def test_no_texts(self):
        for thing in NOT_TEXTS:
            check_refused(self, NoText, read_heading, thing)


class RoomTest(unittest.TestCase):
    def check(self, walls, text):
        told = room_text(Room(walls))
        self.assertEqual(told, text)
        self.assertIs(type(told), str)
        room = read_room(text)
        self.assertIsInstance(room, Room)
        self.assertEqual(shape(room), shape(Room(walls)))
        self.assertEqual(room_text(room), text)

    def test_without_walls(self):
        self.check([], "")

    def test_each_kind(self):
        self.check([Mirror((0, 0), (3, 3))], "mirror 0,0 3,3")
        self.check([Glass((0, 0), (3, 0))], "glass 0,0 3,0")
        self.check([Hole((0, 0), (0, 3))], "hole 0,0 0,3")
        self.check([Door((0, 3), (3, 0))], "door 2 0,3 3,0")
        for every in range(1, 10):
            self.check([Door((0, 0), (3, 3), every)], f"door {every} 0,0 3,3")

    def test_each_kind_is_read_as_its_class(self):
        room = read_room("mirror 0,0 1,0; glass 0,1 1,1; hole 0,2 1,2; door 5 0,3 1,3")
        self.assertEqual([type(wall) for wall in room.walls()], [Mirror, Glass, Hole, Door])

    def test_several_walls_in_their_order(self):
        self.check(
            [Hole((5, 5), (6, 6)), Mirror((0, 0), (4, 0)), Door((2, -2), (2, 2), 9), Glass((-1, 1), (-2, 2))],
            "hole 5,5 6,6; mirror 0,0 4,0; door 9 2,-2 2,2; glass -2,2 -1,1",
        )

    def test_ends_in_either_order(self):
        for text, told in (
            ("mirror 3,3 0,0", "mirror 0,0 3,3"), ("glass 3,0 0,0", "glass 0,0 3,0"),
            ("hole 0,3 0,-3", "hole 0,-3 0,3"), ("door 7 3,0 0,3", "door 7 0,3 3,0"),
            ("door 1 -10,0 -9,0; mirror 10,1 9,1", "door 1 -10,0 -9,0; mirror 9,1 10,1"),
        ):
            self.assertEqual(room_text(read_room(text)), told)

    def test_the_farthest_ends(self):
        self.check([Mirror((-1000, 1000), (1000, -1000))], "mirror -1000,1000 1000,-1000")

    def test_forty_walls(self):
        walls = [Mirror((0, height), (5, height)) for height in range(40)]
        self.check(walls, "; ".join(f"mirror 0,{height} 5,{height}" for height in range(40)))

    def test_each_reading_makes_a_room_of_its_own(self):
        text = "mirror 0,0 3,3"
        self.assertIsNot(read_room(text), read_room(text))
        read_room("").walls().append(Mirror((0, 0), (1, 1)))
        self.assertEqual(read_room("").walls(), [])


class NoRoomTest(unittest.TestCase):
    def check(self, text, refusal=NoText):
        with self.subTest(text=text):
            check_refused(self, refusal, read_room, text)

    def test_no_texts(self):
        for thing in NOT_TEXTS:
            self.check(thing)

    def test_no_walls(self):
        for text in (
            " ", ";", "; ", "x", "mirror", "mirror ", "mirror 0,0", "mirror 0,0 ", "mirror 0,0 3,3 ", " mirror 0,0 3,3",
            "mirror  0,0 3,3", "mirror 0,0  3,3", "mirror 0,0 3,3 4,4", "mirror 0,0,3,3", "mirror 0,0;3,3",
            "Mirror 0,0 3,3", "MIRROR 0,0 3,3", "mirrors 0,0 3,3", "wall 0,0 3,3", "0,0 3,3", "mirror0,0 3,3",
            "mirror 2 0,0 3,3", "glass 2 0,0 3,3", "hole 1 0,0 3,3", "mirror 0,0 3", "mirror 0 3,3", "mirror 0 0 3 3",
            "mirror\t0,0 3,3", "mirror 0,0\n3,3", "mirror 0,0 3,3\n", "mirror\u00a00,0 3,3", "mirror , ,", "glass 0,0 ,",
            "door 0,0 3,3", "door 2 0,0", "door 2", "door", "door 0,0 2 3,3", "door 0,0 3,3 2", "door  0,0 3,3",
            "door 2  0,0 3,3", "door 2 0,0 3,3 ", "door 2 2 0,0 3,3", "door 2,2 0,0 3,3", "door 1/2 0,0 3,3",
            "door 3/1 0,0 3,3", "door 4/2 0,0 3,3", "mirror 0,0 3,3 door", "mirror -0,0 3,3", "mirror 0,0 03,3",
        ):
            self.check(text)

    def test_no_row_of_walls(self):
        wall = "mirror 0,0 3,3"
        other = "glass 5,0 8,3"
        for text in (
            f"{wall};", f"{wall}; ", f"; {wall}", f"{wall};{other}", f"{wall};  {other}", f"{wall} ; {other}",
            f"{wall}, {other}", f"{wall}; ; {other}", f"{wall};; {other}", f"{wall}\n{other}", f"{wall} {other}",
            f"{wall};\n{other}", f"{wall}; {other};", f"{wall}; {other}.", f"{wall}; x", f"x; {wall}",
        ):
            self.check(text)

    def test_numbers_that_are_none(self):
        for part in NOT_NUMBERS + NOT_FRACTIONS:
            for text in (f"mirror {part},0 3,3", f"glass 0,{part} 3,3", f"hole 0,0 {part},3", f"door 2 0,0 3,{part}",
                         f"door {part} 0,0 3,3"):
                self.check(text)

    def test_ends_that_are_no_whole_points(self):
        for text in ("mirror 1/2,0 3,0", "mirror 0,1/2 3,1/2", "glass 0,0 7/2,0", "hole 0,0 0,-7/2",
                     "door 2 1/2,1/2 3/2,3/2"):
            self.check(text)

    def test_walls_that_are_refused(self):
        for text in ("mirror 0,0 0,0", "mirror 0,0 1,2", "glass 0,0 1001,0", "hole 0,-1001 0,0", "door 0 0,0 3,3",
                     "door 10 0,0 3,3", "door -1 0,0 3,3", "door 11 0,0 1,2"):
            self.check(text, BadWall)

    def test_numbers_of_sixty_and_of_sixty_one_figures(self):
        for sign in ("", "-"):
            self.check(f"mirror 0,0 {sign}{SIXTY},0", BadWall)
            self.check(f"mirror 0,{sign}{SIXTY} 0,0", BadWall)
            self.check(f"door {sign}{SIXTY} 0,0 3,3", BadWall)
            self.check(f"mirror 0,0 {sign}{SIXTY_ONE},0")
            self.check(f"mirror 0,{sign}{SIXTY_ONE} 0,0")
            self.check(f"door {sign}{SIXTY_ONE} 0,0 3,3")


class OrderTest(unittest.TestCase):
    NO_TEXT = "mirror 0,0 3"
    BAD_WALL = "mirror 0,50 3,51"

    def rungs(self, number):
        return [f"mirror 0,{height} 5,{height}" for height in range(number)]

    def check_everywhere(self, refusal, part, parts):
        for at in (0, len(parts) // 2, len(parts)):
            check_refused(self, refusal, read_room, "; ".join(parts[:at] + [part] + parts[at:]))

    def test_no_text_goes_ahead_of_all(self):
        self.check_everywhere(NoText, self.NO_TEXT, [self.BAD_WALL])
        self.check_everywhere(NoText, self.NO_TEXT, ["door 0 0,0 3,3", "door 10 0,0 3,3"])
        self.check_everywhere(NoText, self.NO_TEXT, self.rungs(41))
        self.check_everywhere(NoText, self.NO_TEXT, self.rungs(1) * 2)
        self.check_everywhere(NoText, self.NO_TEXT, self.rungs(1) * 41 + [self.BAD_WALL])

    def test_then_bad_wall(self):
        for bad in (self.BAD_WALL, "door 10 0,50 3,50", "glass 0,50 0,50", f"hole 0,50 {SIXTY},50"):
            self.check_everywhere(BadWall, bad, self.rungs(40))
            self.check_everywhere(BadWall, bad, self.rungs(60))
            self.check_everywhere(BadWall, bad, self.rungs(1) * 2)
            self.check_everywhere(BadWall, bad, self.rungs(1) * 41)

    def test_then_too_many(self):
        self.check_everywhere(TooMany, "mirror 0,50 3,50", self.rungs(40))
        self.check_everywhere(TooMany, "mirror 0,0 3,0", self.rungs(40))
        check_refused(self, TooMany, read_room, "; ".join(self.rungs(1) * 41))
        check_refused(self, TooMany, read_room, "; ".join(self.rungs(45)))

    def test_then_overlap(self):
        self.check_everywhere(Overlap, "glass 1,0 3,0", self.rungs(39))
        with self.assertRaises(Overlap) as caught:
            read_room("; ".join(self.rungs(3) + ["glass 9,9 8,8", "door 3 4,1 6,1", "hole 1,0 2,0"]))
        self.assertEqual((caught.exception.one, caught.exception.other), (1, 4))


if __name__ == "__main__":
    unittest.main()
