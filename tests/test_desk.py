"""Points 2, 33 and 34 of the document, as bouncewise/desk.py keeps them."""

import unittest

from bouncewise.desk import Desk
from bouncewise.drawings import drawn
from bouncewise.errors import BadWall, NoName, NoRow, NoText, NoWay, OutOfBox, Overlap, TooLong, TooMany
from bouncewise.flights import flown
from bouncewise.papers import ways
from bouncewise.rounds import round_of
from bouncewise.texts import read_heading, read_point, room_text
from checks import BOX, ROOMS, check_arguments, check_on_wall, check_refused

BOX_TEXT = "mirror 0,0 4,0; mirror 0,0 0,3; mirror 0,3 4,3; mirror 4,0 4,3"

# A floor, a glass and a hole above it, and a door that lets by each third time.
MIXED_TEXT = "mirror 0,0 6,0; glass 0,2 6,2; hole 0,5 6,5; door 3 6,0 6,5"

SIXTY = "9" * 60
SIXTY_ONE = "9" * 61

# Each row as it may be told to a desk that keeps the box as a.
ROWS = (
    "room b " + BOX_TEXT, "drop a", "show a", "first a 1,1 2,1", "fly a 1,1 2,1 3", "round a 1,1 2,1",
    "ways a 1,1 3,1 1", "draw a 4 3",
)
NOT_TEXTS = (None, 7, True, 1.5, b"show a", ["show", "a"], ("show a",), {"show": "a"}, {"show a"}, object(), Desk, BOX)


def desk_with(**texts):
    desk = Desk()
    for name, text in texts.items():
        desk.say(f"room {name} {text}")
    return desk


class DeskTest(unittest.TestCase):
    def setUp(self):
        self.desk = desk_with(a=BOX_TEXT, mixed=MIXED_TEXT, none="")

    def check(self, row, answer):
        told = self.desk.say(row)
        self.assertEqual(told, answer)
        self.assertIs(type(told), str)

    # What is refused leaves all rooms as they were.
    def refused(self, refusal, row):
        before = self.rooms()
        check_refused(self, refusal, self.desk.say, row)
        self.assertEqual(self.rooms(), before)

    def on_wall(self, number, row):
        before = self.rooms()
        check_on_wall(self, number, self.desk.say, row)
        self.assertEqual(self.rooms(), before)

    def rooms(self):
        told = {}
        for name in ("a", "b", "mixed", "none", "abcdefgh", "z"):
            try:
                told[name] = self.desk.say(f"show {name}")
            except NoName:
                told[name] = None
        return told


class InterfaceTest(unittest.TestCase):
    def test_arguments(self):
        check_arguments(self, Desk)
        check_arguments(self, Desk.say, "self", "row")

    def test_arguments_by_name(self):
        self.assertEqual(Desk().say(row="room a "), "ok")


class NoRowTest(DeskTest):
    def test_the_rows_are_rows(self):
        for row in ROWS:
            self.assertIs(type(desk_with(a=BOX_TEXT).say(row)), str)

    def test_what_is_no_text(self):
        for thing in NOT_TEXTS:
            self.refused(NoRow, thing)

    def test_unknown_first_words(self):
        for row in ("", " ", "a", "a a", "Show a", "SHOW a", "shows a", "sho a", "rooms b ", "flown a 1,1 1,0 1",
                    "\tshow a", "show\ta", "help", "corner a 1,1 1,0", "show,a", "room", "say show a"):
            self.refused(NoRow, row)

    def test_a_word_more(self):
        for row in ROWS[1:]:
            self.refused(NoRow, row + " 1")
            self.refused(NoRow, row + " a")

    def test_a_word_less(self):
        for row in ROWS[1:]:
            while " " in row:
                row = row.rpartition(" ")[0]
                self.refused(NoRow, row)

    def test_words_less_of_a_room(self):
        for row in ("room", "room ", "room b", "room a", "room B", "room mirror", "room abcdefghi", "room  "):
            self.refused(NoRow, row)

    def test_a_blank_more(self):
        for row in ROWS[1:]:
            self.refused(NoRow, " " + row)
            self.refused(NoRow, row + " ")
            for place in [place for place, sign in enumerate(row) if sign == " "]:
                self.refused(NoRow, row[:place] + " " + row[place:])

    def test_a_blank_in_the_place_of_a_word(self):
        for row in ("show ", "drop ", "first a 1,1 ", "first a  1,1", "first  1,1 1,0", "fly a 1,1  3", "draw a  3",
                    "draw a 4 ", "ways a  3,1 1", "round a 1,1 "):
            self.refused(NoRow, row)

    def test_a_blank_more_ahead_of_the_name_of_a_room(self):
        for row in (" room b " + BOX_TEXT, "room  b " + BOX_TEXT, "room  b", "room   ", "room  " + BOX_TEXT):
            self.refused(NoRow, row)

    def test_a_blank_more_in_the_text_is_read(self):
        for row in ("room b  " + BOX_TEXT, "room b " + BOX_TEXT + " ", "room b  ", "room b mirror 0,0  4,0"):
            self.refused(NoText, row)

    def test_ahead_of_all_others(self):
        for row in ("show B 1", "first nix 1 1 1", "fly 9 x y 5000 1", "ways nix ", "draw a 41 41 41", "round  0,0 0,0",
                    "fly a 0,0 1,0 4001 ", "drop nix ", "first a 0,0 0,0 ", "room A", "room nix9"):
            self.refused(NoRow, row)

    def test_other_signs_between_words_are_signs_of_words(self):
        self.refused(NoRow, "show\na")
        self.refused(NoName, "show a\n")
        self.refused(NoName, "show a\t")
        self.refused(NoName, "show \u00a0")
        self.refused(NoText, "first a 1,1 1,0\n")
        self.refused(NoText, "draw a 4 3\n")


class NoNameTest(DeskTest):
    WITH_ROOM = ("drop {}", "show {}", "first {} 1,1 2,1", "fly {} 1,1 2,1 3", "round {} 1,1 2,1", "ways {} 1,1 3,1 1",
                 "draw {} 4 3")
    # None of these is a name, some of them not even where its letters are made small ones.
    NO_NAMES = ("A", "aB", "a1", "1", "a-b", "a_b", "a.", "\u00e4", "\u0430", "abcdefghi", "abcdefghijklmnop", "a\n",
                "a,b", "\u212a", "mirrorwall", "{", "`")

    def test_what_is_no_name(self):
        for name in self.NO_NAMES:
            self.refused(NoName, f"room {name} ")
            self.refused(NoName, f"room {name} {BOX_TEXT}")
            for row in self.WITH_ROOM:
                self.refused(NoName, row.format(name))

    def test_names_of_one_to_eight_letters(self):
        for name in ("a", "z", "q", "ab", "az", "abcdefg", "abcdefgh", "zzzzzzzz", "room", "show"):
            self.check(f"room {name} mirror 1,0 2,0", "ok")
            self.check(f"show {name}", "mirror 1,0 2,0")
            self.check(f"first {name} 1,1 2,-3", "1/3 5/3,0 0")
            self.check(f"drop {name}", "ok")
            self.refused(NoName, f"show {name}")

    def test_every_letter(self):
        for letter in "abcdefghijklmnopqrstuvwxyz":
            self.check(f"room {letter} ", "ok")
            self.check(f"room {letter * 8} ", "ok")
            self.refused(NoName, f"room {letter * 9} ")

    def test_no_room_by_the_name(self):
        for name in ("b", "nix", "aa", "mixe", "mixedd", "abcdefgh"):
            for row in self.WITH_ROOM:
                self.refused(NoName, row.format(name))

    def test_no_room_any_more(self):
        self.check("drop a", "ok")
        for row in self.WITH_ROOM:
            self.refused(NoName, row.format("a"))

    def test_ahead_of_all_behind_it(self):
        for row in ("first nix x 0,0", "fly A x y z", "round nix 0,0 0,0", "ways A1 x y 99", "draw nix x y",
                    "fly nix 0,0 1,0 4001", "draw nix 41 41"):
            self.refused(NoName, row)
        self.refused(NoName, "room A nothing")
        self.refused(NoName, "room abcdefghi mirror 0,0 0,0")
        self.refused(NoName, "room a1 ")


class TextTest(DeskTest):
    def test_a_room_as_point_14_reads_it(self):
        self.refused(NoText, "room b wall 0,0 1,0")
        self.refused(NoText, "room b mirror 0,0 1,0;")
        self.refused(NoText, "room a mirror 0,0 1/2,0")
        self.refused(BadWall, "room a mirror 0,0 1,2")
        self.refused(BadWall, "room a mirror 0,0 1001,0")
        self.refused(BadWall, "room b door 10 0,0 1,0")
        self.refused(NoText, "room b mirror 0,0 1,2; wall 0,0 1,0")
        self.refused(Overlap, "room a mirror 0,0 2,0; glass 1,0 3,0")
        self.refused(TooMany, "room a " + "; ".join(["mirror 0,0 1,0"] * 41))

    def test_forty_walls(self):
        text = "; ".join([f"mirror 0,{height} 40,{height}" for height in range(40)])
        self.check("room b " + text, "ok")
        self.check("show b", text)

    def test_points(self):
        for bad in ("x", "1", "1,", ",1", "1,1,1", "01,1", "1,-0", "2/4,1", "1,3/1", "1,1/0", "+1,1", "1.5,1",
                    SIXTY_ONE + ",1"):
            for row in ("first a {} 2,1", "fly a {} 2,1 3", "round a {} 2,1", "ways a {} 3,1 1", "ways a 1,1 {} 1"):
                self.refused(NoText, row.format(bad))

    def test_headings(self):
        for bad in ("x", "1", "1,", "1,1,1", "01,1", "1,-0", "1/2,1", "+1,1", SIXTY_ONE + ",1"):
            for row in ("first a 1,1 {}", "fly a 1,1 {} 3", "round a 1,1 {}"):
                self.refused(NoText, row.format(bad))
        for row in ("first a 1,1 0,0", "fly a 1,1 0,0 3", "round a 1,1 0,0"):
            self.refused(NoWay, row)

    def test_numbers(self):
        for bad in ("x", "-1", "-0", "01", "0004", "00012", "10000", "99999", "-9999", "1/2", "4/1", "+1", "1.0", "1_0",
                    "\u0663", "1e3", "1,1", SIXTY, SIXTY_ONE, "9" * 5000, "-" + SIXTY):
            for row in ("fly a 1,1 2,1 {}", "ways a 1,1 3,1 {}", "draw a {} 3", "draw a 4 {}"):
                self.refused(NoText, row.format(bad))

    def test_numbers_of_four_figures_are_numbers(self):
        for row in ("fly a 1,1 2,1 9999", "ways a 1,1 3,1 9999", "draw a 9999 3", "draw a 4 9999", "draw a 1000 1000"):
            self.refused(TooMany, row)

    def test_the_first_bad_word_from_the_left(self):
        self.refused(NoText, "first a x 0,0")
        self.refused(NoWay, "fly a 0,0 0,0 x")
        self.refused(NoWay, "fly a 1,1 0,0 99999")
        self.refused(NoText, "fly a x 0,0 5")
        self.refused(NoText, "fly a 1,1 x,0 4001")
        self.refused(NoText, "round a 1 0,0")
        self.refused(NoText, "ways a x y 99")
        self.refused(NoText, "ways a 1,1 y 99")

    def test_words_go_ahead_of_what_the_numbers_are_refused_for(self):
        self.refused(NoText, "draw a 41 x")
        self.refused(NoText, "draw a 9999 -1")
        self.refused(NoText, "draw none 41 10000")
        self.refused(NoWay, "fly a 1,1 0,0 4001")
        self.refused(NoText, "fly a 1 1,0 4001")
        self.refused(NoText, "ways a 1,1 1 61")

    def test_words_go_ahead_of_the_points_asked_for(self):
        self.refused(NoText, "fly a 0,0 1,0 x")
        self.refused(NoWay, "round a 0,0 0,0")
        self.refused(NoText, "ways a 0,0 1,0 x")
        self.refused(NoText, "ways a 0,0 x 1")


class KeptTest(DeskTest):
    def test_a_room_is_put_and_shown(self):
        self.check("room b " + MIXED_TEXT, "ok")
        self.check("show b", MIXED_TEXT)
        self.check("show a", BOX_TEXT)

    def test_a_room_is_shown_as_point_14_writes_it(self):
        self.check("room b door 3 4,0 0,0; hole 2,5 1,4", "ok")
        self.check("show b", "door 3 0,0 4,0; hole 1,4 2,5")

    def test_without_walls(self):
        self.check("show none", "")
        self.check("room b ", "ok")
        self.check("show b", "")
        self.check("first b 1,1 1,0", "none")
        self.check("fly b 1,1 1,0 5", "away")
        self.check("round b 1,1 1,0", "away 0")
        self.check("ways b 1,1 3,1 60", "direct")
        self.check("draw b 1 1", ". .;   ;. .")

    def test_told_anew_by_the_same_name(self):
        self.check("room a mirror 0,0 1,1", "ok")
        self.check("show a", "mirror 0,0 1,1")
        self.check("room a ", "ok")
        self.check("show a", "")
        self.check("room a " + BOX_TEXT, "ok")
        self.check("show a", BOX_TEXT)
        self.check("show mixed", MIXED_TEXT)

    def test_dropped(self):
        self.check("drop a", "ok")
        self.refused(NoName, "drop a")
        self.refused(NoName, "show a")
        self.check("show mixed", MIXED_TEXT)
        self.check("room a mirror 0,0 1,1", "ok")
        self.check("show a", "mirror 0,0 1,1")

    def test_asking_changes_nothing(self):
        before = self.rooms()
        for row in ROWS[2:]:
            first = self.desk.say(row)
            self.check(row, first)
        self.assertEqual(self.rooms(), before)

    def test_two_desks_side_by_side(self):
        one, other = Desk(), Desk()
        self.assertEqual(one.say("room a mirror 0,0 1,1"), "ok")
        check_refused(self, NoName, other.say, "show a")
        self.assertEqual(other.say("room a glass 0,0 1,1"), "ok")
        self.assertEqual(one.say("show a"), "mirror 0,0 1,1")
        self.assertEqual(other.say("show a"), "glass 0,0 1,1")
        self.assertEqual(one.say("drop a"), "ok")
        self.assertEqual(other.say("show a"), "glass 0,0 1,1")
        check_refused(self, NoName, one.say, "show a")
        check_refused(self, NoName, Desk().say, "show a")


class FirstTest(DeskTest):
    def test_one_wall(self):
        self.check("first a 1,1 2,1", "3/2 4,5/2 3")
        self.check("first a 1,1 1,0", "3 4,1 3")
        self.check("first a 1/2,1/3 -1,0", "1/2 0,1/3 1")
        self.check("first mixed 1,1 0,1", "1 1,2 1")

    def test_several_walls(self):
        self.check("first a 1,1 3,2", "1 4,3 2 3")
        self.check("first a 1,1 -1,-1", "1 0,0 0 1")
        self.check("first a 1/2,1/2 -1,-1", "1/2 0,0 0 1")
        self.check("room b glass -2,0 2,0; hole 0,-2 0,2; mirror -2,-2 2,2; mirror 2,-2 -2,2", "ok")
        self.check("first b -1,1/2 2,-1", "1/2 0,0 0 1 2 3")

    def test_none(self):
        self.check("first mixed 1,1 -1,0", "none")
        self.check("first none 1,1 -1,0", "none")

    def test_from_a_point_on_a_wall(self):
        self.check("first a 0,1 1,0", "4 4,1 3")
        self.check("first a 0,1 0,-1", "1 0,0 0 1")

    def test_a_heading_with_a_divisor(self):
        self.check("first a 1,1 4,2", "3/2 4,5/2 3")

    def test_numbers_below_nought_and_of_many_figures(self):
        self.check(f"first a -{SIXTY},1 1,0", f"{SIXTY} 0,1 1")
        self.check(f"first a -1,1/{SIXTY} 1,0", f"1 0,1/{SIXTY} 1")
        self.check(f"first a 5,1 -{SIXTY},0", "1 4,1 3")
        self.check("room b mirror -3,-5 -3,5", "ok")
        self.check("first b 0,0 -2,-1", "3/2 -3,-3/2 0")


class FlyTest(DeskTest):
    def test_going(self):
        self.check("fly a 1,1 2,1 0", "going")
        self.check("fly a 1,1 2,1 1", "3 3/2 4,5/2; going")
        self.check("fly a 1,1 2,1 3", "3 3/2 4,5/2; 2 2 3,3; 1 7/2 0,3/2; going")

    def test_corner(self):
        self.check("fly a 1,1 3,2 5", "corner")
        self.check("fly a 1,1 3,2 0", "going")
        self.check("fly a 1,1 1,1 6", "2 2 3,3; 3 3 4,2; 0 5 2,0; 1 7 0,2; 2 8 1,3; corner")
        self.check("fly a 1,1 1,1 5", "2 2 3,3; 3 3 4,2; 0 5 2,0; 1 7 0,2; 2 8 1,3; going")

    def test_fell(self):
        self.check("fly mixed 1,1 0,1 9", "1 1 1,2; fell")
        self.check("fly mixed 1,3 0,1 9", "fell")
        self.check("fly mixed 1,1 0,-1 9", "0 1 1,0; 1 3 1,2; fell")

    def test_away(self):
        self.check("fly mixed 1,1 -1,0 9", "away")
        self.check("fly mixed 1/2,1 1,0 9", "3 11/2 6,1; away")
        self.check("fly none 1,1 -1,0 9", "away")
        self.check("fly none 1,1 -1,0 0", "going")

    def test_four_thousand_and_more(self):
        told = self.desk.say("fly a 1,1 2,1 4000")
        self.assertEqual(told.count("; "), 4000)
        self.assertTrue(told.endswith("; going"))
        self.refused(TooMany, "fly a 1,1 2,1 4001")
        self.refused(TooMany, "fly none 1,1 2,1 4001")

    def test_refusals(self):
        self.on_wall(0, "fly a 0,0 1,0 5")
        self.on_wall(3, "fly a 4,1 1,0 0")
        self.on_wall(3, "fly a 4,1 1,0 4000")
        self.refused(TooMany, "fly a 4,1 1,0 4001")

    def test_as_flown_tells(self):
        for room in ROOMS:
            self.check("room b " + room_text(room), "ok")
            for point, heading, most in (("1/2,1/3", "2,1", 9), ("5/2,7/3", "-1,3", 30), ("1/7,1/5", "-4,-6", 12)):
                hits, outcome = flown(room, read_point(point), read_heading(heading), most)
                words = self.desk.say(f"fly b {point} {heading} {most}").split("; ")
                self.assertEqual(words[-1], "going" if outcome is None else outcome[0])
                self.assertEqual(len(words), len(hits) + 1)
                for word, hit in zip(words, hits):
                    parts = word.split(" ")
                    self.assertEqual((int(parts[0]), read_point(parts[2])), (hit[0], hit[2]))
                    self.assertEqual(read_point(parts[1] + ",0"), (hit[1][0], 0, hit[1][1]))


class RoundTest(DeskTest):
    def test_round(self):
        self.check("round a 1,1 2,1", "round 12 10")
        self.check("round a 1,1 1,0", "round 8 2")
        self.check("round a 1/3,2/7 0,-5", "round 6 2")

    def test_corner(self):
        self.check("round a 1,1 1,1", "corner 11 5")
        self.check("round a 5/2,2 3,2", "corner 1/2 0")

    def test_fell(self):
        self.check("round mixed 1,1 0,1", "fell 4 1")
        self.check("round mixed 1,1/2 0,-1", "fell 11/2 2")

    def test_away(self):
        self.check("round mixed 1/2,1 1,0", "away 1")
        self.check("round none 1,1 1,0", "away 0")

    def test_refusals(self):
        self.on_wall(0, "round a 0,0 1,0")
        self.on_wall(3, "round a 4,1 1,9999")
        self.refused(TooLong, "round a 1,1 1,9999")

    def test_just_so_many_hits(self):
        self.check("room b mirror 0,0 1,0; mirror 0,0 0,1; mirror 0,1 1,1", "ok")
        self.check("round b 1/2,1/2 1,1200", "away 600")
        self.refused(TooLong, "round b 1/2,1/2 1,1202")

    def test_as_round_of_tells(self):
        for room in ROOMS:
            self.check("room b " + room_text(room), "ok")
            for point, heading in (("1/2,1/3", "2,1"), ("5/2,7/3", "-1,3"), ("1/7,1/5", "-1,-1"), ("7/2,7/2", "0,1")):
                word, time, hits = round_of(room, read_point(point), read_heading(heading))
                parts = self.desk.say(f"round b {point} {heading}").split(" ")
                self.assertEqual((parts[0], parts[-1]), (word, str(hits)))
                self.assertEqual(len(parts), 2 if time is None else 3)
                if time is not None:
                    self.assertEqual(read_point(parts[1] + ",0"), (time[0], 0, time[1]))


class WaysTest(DeskTest):
    def test_rows(self):
        self.check("ways a 1,1 3,1 0", "direct")
        self.check("ways a 1,1 3,1 1", "direct 0 1 2 3")
        self.check("ways a 1,1 1,1 1", "0 1 2 3")
        self.check("ways mixed 1,1 3,1 2", "direct 0 3 0-3")

    def test_longer_rows(self):
        self.check("room b mirror 0,0 9,0; mirror 0,2 9,2", "ok")
        self.check("ways b 1,1 3,1 3", "direct 0 1 0-1 1-0 0-1-0 1-0-1")

    def test_numbers_of_two_figures(self):
        glasses = "; ".join([f"glass 0,{height} 1,{height}" for height in range(20, 32)])
        self.check(f"room b {glasses}; mirror 0,0 9,0; mirror 0,2 9,2", "ok")
        self.check("ways b 1,1 3,1 2", "direct 12 13 12-13 13-12")

    def test_none(self):
        self.check("room b hole 2,-9 2,9", "ok")
        self.check("ways b 1,1 3,1 9", "none")
        self.check("ways none 1,1 1,1 0", "none")
        self.check("ways a 1,1 1,1 0", "none")

    def test_sixty_and_more(self):
        self.check("ways none 1,1 3,1 60", "direct")
        self.refused(TooMany, "ways none 1,1 3,1 61")
        self.check("room b mirror 0,0 9,0; mirror 0,2 9,2", "ok")
        self.assertEqual(len(self.desk.say("ways b 1,1 3,1 60").split(" ")), 121)
        self.refused(TooMany, "ways b 1,1 3,1 61")

    def test_refusals(self):
        self.refused(TooMany, "ways a 1,1 3,1 6")
        self.refused(TooMany, "ways a 0,0 3,1 6")
        self.refused(TooMany, "ways a 0,0 4,1 61")
        self.on_wall(0, "ways a 0,0 4,1 5")
        self.on_wall(3, "ways a 1,1 4,1 0")
        self.on_wall(1, "ways mixed 1,2 3,2 0")

    def test_as_ways_tells(self):
        for room in ROOMS:
            self.check("room b " + room_text(room), "ok")
            rows = [row for row, heading in ways(room, (1, 2, 4), (10, 5, 3), 2)]
            words = self.desk.say("ways b 1/4,1/2 10/3,5/3 2").split(" ")
            self.assertEqual([self.numbers(word) for word in words if word != "none"], rows)

    def numbers(self, word):
        return [] if word == "direct" else [int(part) for part in word.split("-")]


class DrawTest(DeskTest):
    def test_rows(self):
        self.check("draw a 4 3", "+-------+;|       |;| . . . |;|       |;| . . . |;|       |;+-------+")
        self.check("draw none 0 0", ".")
        self.check("draw none 1 0", ". .")
        self.check("draw none 0 1", ".; ;.")
        self.check("room b glass 0,0 1,1; hole 0,1 1,0", "ok")
        self.check("draw b 1 1", "+ +; X ;+ +")

    def test_forty_and_more(self):
        self.check("draw a 40 40", ";".join(drawn(BOX, 40, 40)))
        for row in ("draw a 41 40", "draw a 40 41", "draw a 41 41", "draw none 41 0", "draw none 0 41"):
            self.refused(TooMany, row)

    def test_out_of_the_box(self):
        self.refused(OutOfBox, "draw a 3 3")
        self.refused(OutOfBox, "draw a 4 2")
        self.refused(OutOfBox, "draw a 0 0")
        self.check("room b mirror -1,0 3,0", "ok")
        self.refused(OutOfBox, "draw b 9 9")

    def test_too_many_ahead_of_out_of_the_box(self):
        self.refused(TooMany, "draw a 3 41")
        self.refused(TooMany, "draw a 41 2")


if __name__ == "__main__":
    unittest.main()
