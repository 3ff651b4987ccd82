"""Points 2, 3, 23 and 24 of the document, as bouncewise/papers.py keeps them."""

import unittest
from fractions import Fraction
from itertools import product
from math import gcd

from bouncewise.errors import TooMany
from bouncewise.light import rows_of
from bouncewise.papers import paper, ways
from bouncewise.rooms import Room
from bouncewise.walls import Door, Glass, Hole, Mirror
from checks import (
    BOX, FIVE, GREAT, ROOMS, check_arguments, check_hits, check_on_wall, check_refused, check_whole_numbers,
    flight_reckoned, picture_reckoned, place, point_at, standing_at,
)

P = (1, 1, 1)
Q = (3, 1, 1)
FLOOR = Mirror((0, 0), (4, 0))

# A floor, a door that lets by each second time, and a ceiling.
WELL = Room([Mirror((0, 0), (9, 0)), Door((0, 2), (9, 2)), Mirror((0, 4), (9, 4))])

# Enough for the rows looked at here: it is seen to that no more are wanted.
MOST = 24


def way_reckoned(begin, R):
    (x, y), (right, up) = place(begin), place(R)
    a, b, w = point_at(right - x, up - y)
    return (a // gcd(a, b), b // gcd(a, b)), Fraction(gcd(a, b), w)


def paper_reckoned(walls, begin, goal, row):
    R = picture_reckoned(walls, row, goal)
    if R == begin:
        return "here", None, [], begin
    heading, T = way_reckoned(begin, R)
    flight, outcome = flight_reckoned(walls, begin, heading, MOST)
    hits, turned, ahead = [], [], heading
    for hit in [hit for hit in flight if Fraction(*hit[1]) < T]:
        hits.append(hit)
        turned += [hit[0]] if hit[3] != ahead else []
        ahead = hit[3]
        if turned != row[:len(turned)]:
            return "other", heading, hits, hit[2]
    assert len(hits) < MOST
    if outcome not in (None, ("away",)) and Fraction(*outcome[-2]) < T:
        return outcome[0], heading, hits, outcome[-1]
    return "comes" if turned == row else "short", heading, hits, standing_at(begin, heading, hits, T)


class PaperCase(unittest.TestCase):
    def check(self, room, begin, goal, row, told):
        written = paper(room, begin, goal, row)
        self.assertIs(type(written), tuple)
        self.assertEqual(written, told, (begin, goal, row))
        check_hits(self, written[2], told[2])
        check_whole_numbers(self, written[3], 3)
        if told[1] is not None:
            check_whole_numbers(self, written[1], 2)


class OnWallTest(unittest.TestCase):
    def check(self, number, begin, goal):
        for row in ([], [0], [1, 1], [3, 2, 1], [0] * 60):
            check_on_wall(self, number, paper, BOX, begin, goal, row)
        check_on_wall(self, number, ways, BOX, begin, goal)
        for most in (0, 1, 3):
            check_on_wall(self, number, ways, BOX, begin, goal, most)

    def test_the_begin_ahead_of_the_goal(self):
        self.check(3, (4, 1, 1), (1, 0, 1))
        self.check(0, (1, 0, 1), (4, 1, 1))
        self.check(1, (0, 3, 1), (4, 0, 1))

    def test_the_begin_alone(self):
        self.check(2, (1, 3, 1), Q)
        self.check(2, (4, 3, 1), Q)

    def test_the_goal_alone(self):
        self.check(2, P, (1, 3, 1))
        self.check(0, P, (4, 0, 1))
        self.check(1, P, (0, 1, GREAT))

    def test_both_at_one_point(self):
        self.check(3, (4, 1, 1), (4, 1, 1))

    def test_each_kind(self):
        for kind in (Mirror, Glass, Hole, Door):
            room = Room([FLOOR, kind((5, 0), (8, 3))])
            check_on_wall(self, 1, paper, room, (13, 3, 2), P, [])
            check_on_wall(self, 1, paper, room, P, (13, 3, 2), [])
            check_on_wall(self, 1, ways, room, P, (8, 3, 1))


class HereTest(PaperCase):
    def test_the_point_itself(self):
        for room in ROOMS + (Room([]),):
            self.check(room, (5, 3, 2), (5, 3, 2), [], ("here", None, [], (5, 3, 2)))

    def test_a_picture(self):
        self.check(Room([FLOOR]), P, (1, -1, 1), [0], ("here", None, [], P))
        self.check(Room([FLOOR]), (9, 2, 7), (9, -2, 7), [0], ("here", None, [], (9, 2, 7)))
        self.check(Room([Hole((0, 5), (5, 0))]), P, (4, 4, 1), [0], ("here", None, [], P))
        self.check(Room([FLOOR, Glass((9, 0), (9, 1))]), P, (17, -1, 1), [0, 1], ("here", None, [], P))

    def test_neighbours_alike(self):
        for row in ([0, 0], [3, 3, 2, 2], [1, 0, 0, 1], [2] * 60):
            self.check(BOX, P, P, row, ("here", None, [], P))

    def test_what_is_not_here(self):
        self.assertEqual(paper(BOX, P, P, [0])[0], "comes")
        self.assertEqual(paper(Room([FLOOR]), P, (1, -1, 1), [])[0], "other")


class ComesTest(PaperCase):
    def test_straight(self):
        self.check(BOX, P, Q, [], ("comes", (1, 0), [], Q))
        self.check(Room([]), P, (-5, 4, 1), [], ("comes", (-2, 1), [], (-5, 4, 1)))
        self.check(Room([]), (1, 1, 2), (1, 1, 3), [], ("comes", (-1, -1), [], (1, 1, 3)))

    def test_by_one_wall(self):
        self.check(BOX, P, Q, [0], ("comes", (1, -1), [(0, (1, 1), (2, 0, 1), (1, 1))], Q))
        self.check(BOX, P, Q, [1], ("comes", (-1, 0), [(1, (1, 1), (0, 1, 1), (1, 0))], Q))
        self.check(BOX, P, Q, [2], ("comes", (1, 2), [(2, (1, 1), (2, 3, 1), (1, -2))], Q))
        self.check(BOX, P, Q, [3], ("comes", (1, 0), [(3, (3, 1), (4, 1, 1), (-1, 0))], Q))

    def test_back_to_the_begin(self):
        self.check(BOX, P, P, [0], ("comes", (0, -1), [(0, (1, 1), (1, 0, 1), (0, 1))], P))

    def test_by_several_walls(self):
        self.check(BOX, P, Q, [0, 2], ("comes", (1, -3), [
            (0, (1, 3), (4, 0, 3), (1, 3)), (2, (4, 3), (7, 9, 3), (1, -3)),
        ], Q))
        self.check(BOX, P, Q, [0, 3], ("comes", (2, -1), [
            (0, (1, 1), (3, 0, 1), (2, 1)), (3, (3, 2), (8, 1, 2), (-2, 1)),
        ], Q))
        self.check(BOX, P, Q, [2, 3, 0, 1, 2], ("comes", (1, 1), FIVE, Q))

    def test_by_sixty_walls(self):
        word, heading, hits, spot = paper(BOX, P, Q, [0, 2] * 30)
        self.assertEqual((word, heading, spot), ("comes", (1, -90), Q))
        self.assertEqual([hit[0] for hit in hits], [0, 2] * 30)

    def test_through_glass(self):
        room = Room([FLOOR, Glass((2, -1), (2, 5)), Glass((0, 9), (1, 9))])
        self.check(room, P, Q, [], ("comes", (1, 0), [(1, (1, 1), (2, 1, 1), (1, 0))], Q))
        self.check(room, P, (5, 1, 1), [0], ("comes", (2, -1), [
            (1, (1, 2), (4, 1, 2), (2, -1)), (0, (1, 1), (3, 0, 1), (2, 1)),
        ], (5, 1, 1)))

    def test_slanting_walls(self):
        room = Room([Mirror((5, 0), (9, 4)), Mirror((5, 9), (9, 5))])
        self.check(room, P, (6, 5, 1), [0], ("comes", (1, 0), [(0, (5, 1), (6, 1, 1), (0, 1))], (6, 5, 1)))
        self.check(room, P, (0, 8, 1), [0, 1], ("comes", (1, 0), [
            (0, (5, 1), (6, 1, 1), (0, 1)), (1, (12, 1), (6, 8, 1), (-1, 0)),
        ], (0, 8, 1)))


class DoorsTest(PaperCase):
    def test_one_that_does_not_let_by(self):
        hits = [(1, (1, 1), (2, 2, 1), (1, -1))]
        self.check(WELL, P, Q, [1], ("comes", (1, 1), hits, Q))
        self.check(WELL, P, (3, 3, 1), [], ("other", (1, 1), hits, (2, 2, 1)))

    def test_one_that_always_lets_by(self):
        room = Room([Mirror((0, 0), (9, 0)), Door((0, 2), (9, 2), 1)])
        hits = [(1, (1, 1), (2, 2, 1), (1, 1))]
        self.check(room, P, (3, 3, 1), [], ("comes", (1, 1), hits, (3, 3, 1)))
        self.check(room, P, Q, [1], ("short", (1, 1), hits, (3, 3, 1)))

    def test_the_second_hit_lets_by(self):
        hits = [
            (1, (1, 3), (4, 6, 3), (1, -3)), (0, (1, 1), (2, 0, 1), (1, 3)), (1, (5, 3), (8, 6, 3), (1, 3)),
        ]
        self.check(WELL, P, (3, 3, 1), [1, 0], ("comes", (1, 3), hits, (3, 3, 1)))
        self.check(WELL, P, Q, [1, 0, 1], ("short", (1, 3), hits, (3, 3, 1)))

    def test_the_third_hit_does_not(self):
        self.check(WELL, P, (3, 3, 1), [1, 0, 2, 1], ("comes", (1, 5), [
            (1, (1, 5), (6, 10, 5), (1, -5)), (0, (3, 5), (8, 0, 5), (1, 5)), (1, (1, 1), (2, 2, 1), (1, 5)),
            (2, (7, 5), (12, 20, 5), (1, -5)), (1, (9, 5), (14, 10, 5), (1, 5)),
        ], (3, 3, 1)))

    def test_each_paper_begins_its_counts_anew(self):
        for again in range(3):
            self.assertEqual(paper(WELL, P, Q, [1])[0], "comes")
            self.assertEqual(paper(WELL, P, (3, 3, 1), [])[0], "other")


class OtherTest(PaperCase):
    def test_a_later_wall_of_the_row(self):
        self.check(BOX, P, Q, [3, 0], ("other", (2, -1), [(0, (1, 1), (3, 0, 1), (2, 1))], (3, 0, 1)))

    def test_a_wall_that_the_row_has_not(self):
        room = Room([FLOOR, Mirror((0, 2), (4, 2)), Mirror((0, 4), (4, 4))])
        self.check(room, P, Q, [0, 2], ("other", (1, -4), [
            (0, (1, 4), (5, 0, 4), (1, 4)), (1, (3, 4), (7, 8, 4), (1, -4)),
        ], (7, 8, 4)))

    def test_behind_all_of_the_row(self):
        room = Room([FLOOR, Mirror((4, 1), (4, 5))])
        self.check(room, P, (5, 3, 1), [], ("other", (2, 1), [(1, (3, 2), (8, 5, 2), (-2, 1))], (8, 5, 2)))
        self.check(room, P, (5, 3, 1), [0], ("other", (1, -1), [
            (0, (1, 1), (2, 0, 1), (1, 1)), (1, (3, 1), (4, 2, 1), (-1, 1)),
        ], (4, 2, 1)))

    def test_once_more_than_the_row_has_it(self):
        room = Room([FLOOR, Mirror((0, 2), (4, 2))])
        self.check(room, P, (2, -9, 1), [0, 1], ("other", (1, -14), [
            (0, (1, 14), (15, 0, 14), (1, 14)), (1, (3, 14), (17, 28, 14), (1, -14)),
            (0, (5, 14), (19, 0, 14), (1, 14)),
        ], (19, 0, 14)))

    def test_glasses_ahead_are_among_the_hits(self):
        room = Room([Glass((0, 2), (4, 2)), Glass((0, 3), (4, 3)), Mirror((0, 4), (4, 4)), FLOOR])
        self.check(room, P, (1, 9, 1), [], ("other", (0, 1), [
            (0, (1, 1), (1, 2, 1), (0, 1)), (1, (2, 1), (1, 3, 1), (0, 1)), (2, (3, 1), (1, 4, 1), (0, -1)),
        ], (1, 4, 1)))

    # Ahead of T there are more hits than could ever be told.
    def test_a_goal_very_far_away(self):
        self.check(BOX, P, (1, GREAT, 1), [], ("other", (0, 1), [(2, (2, 1), (1, 3, 1), (0, -1))], (1, 3, 1)))
        self.check(BOX, P, (1, GREAT, 1), [2], ("other", (0, -1), [(0, (1, 1), (1, 0, 1), (0, 1))], (1, 0, 1)))
        self.check(BOX, P, (1, GREAT, 1), [0, 2], ("other", (0, 1), [(2, (2, 1), (1, 3, 1), (0, -1))], (1, 3, 1)))


class CornerTest(PaperCase):
    def test_an_end_of_each_kind(self):
        for kind in (Mirror, Glass, Hole, Door):
            room = Room([kind((2, 0), (2, 1))])
            self.check(room, P, Q, [], ("corner", (1, 0), [], (2, 1, 1)))
            self.check(room, P, Q, [0, 0], ("corner", (1, 0), [], (2, 1, 1)))

    def test_a_point_of_two_walls(self):
        room = Room([Mirror((0, -1), (4, 3)), Glass((0, 3), (4, -1))])
        self.check(room, P, Q, [], ("corner", (1, 0), [], (2, 1, 1)))

    def test_behind_hits(self):
        self.check(BOX, P, (5, -1, 1), [2, 3, 0, 1, 2], ("corner", (1, 1), FIVE, (4, 0, 1)))
        self.check(BOX, P, (5, 7, 1), [2, 3, 0, 1, 2, 2], ("corner", (1, 1), FIVE, (4, 0, 1)))

    def test_ahead_of_a_part_of_the_row(self):
        room = Room([FLOOR, Mirror((0, 2), (1, 2)), Glass((3, 1), (3, 2))])
        self.check(room, P, (6, 0, 1), [0, 1], ("corner", (1, -1), [(0, (1, 1), (2, 0, 1), (1, 1))], (3, 1, 1)))


class FellTest(PaperCase):
    ROOM = Room([FLOOR, Hole((5, 1), (5, 9)), Glass((0, 2), (9, 2))])
    HITS = [(0, (1, 1), (2, 0, 1), (1, 1)), (2, (3, 1), (4, 2, 1), (1, 1))]

    def test_straight(self):
        room = Room([FLOOR, Hole((2, 0), (2, 3))])
        self.check(room, P, Q, [], ("fell", (1, 0), [], (2, 1, 1)))
        self.check(room, (1, 2, 1), (3, 4, 1), [], ("corner", (1, 1), [], (2, 3, 1)))

    def test_behind_hits(self):
        self.check(self.ROOM, P, (7, 5, 1), [0], ("fell", (1, -1), self.HITS, (5, 3, 1)))

    def test_ahead_of_a_part_of_the_row(self):
        self.check(self.ROOM, P, (7, -5, 1), [0, 0], ("fell", (1, -1), self.HITS, (5, 3, 1)))


class ShortTest(PaperCase):
    BEGIN = (5, 1, 1)
    GOAL = (7, 1, 1)

    def test_by_none(self):
        self.check(Room([FLOOR]), self.BEGIN, self.GOAL, [0], ("short", (1, -1), [], (7, -1, 1)))
        self.check(Room([FLOOR]), self.BEGIN, (20, 4, 3), [0], ("short", (5, -7), [], (20, -4, 3)))

    def test_by_some(self):
        room = Room([FLOOR, Mirror((10, 3), (12, 3))])
        self.check(room, P, Q, [0, 1], ("short", (1, -3), [(0, (1, 3), (4, 0, 3), (1, 3))], (3, 5, 1)))

    def test_neighbours_alike(self):
        self.check(BOX, P, Q, [0, 0], ("short", (1, 0), [], Q))
        self.check(Room([FLOOR]), P, (1, -1, 1), [0, 0], ("short", (0, -1), [(0, (1, 1), (1, 0, 1), (0, 1))], P))
        self.check(BOX, P, Q, [0, 3, 3], ("short", (1, -1), [(0, (1, 1), (2, 0, 1), (1, 1))], Q))

    def test_glasses_and_holes_in_the_row(self):
        room = Room([FLOOR, Glass((2, -1), (2, 5)), Hole((5, 0), (6, 0))])
        self.check(room, P, (4, 1, 1), [1], ("short", (-1, 0), [], (0, 1, 1)))
        self.check(room, P, (-1, 1, 1), [1], ("short", (1, 0), [(1, (1, 1), (2, 1, 1), (1, 0))], (5, 1, 1)))
        self.check(room, (-3, 1, 1), (-5, 1, 1), [2], ("short", (-1, -1), [], (-5, -1, 1)))

    def test_what_is_met_at_that_time(self):
        told = ("short", (1, -1), [], (7, -1, 1))
        for kind in (Mirror, Glass, Hole, Door):
            self.check(Room([FLOOR, kind((6, -1), (8, -1))]), self.BEGIN, self.GOAL, [0], told)
            self.check(Room([FLOOR, kind((7, -1), (9, -1))]), self.BEGIN, self.GOAL, [0], told)
        self.check(BOX, P, (4, 6, 1), [2, 3, 0, 1, 2, 2], ("short", (1, 1), FIVE, (4, 0, 1)))
        self.check(FellTest.ROOM, P, (5, -3, 1), [0, 0], ("short", (1, -1), FellTest.HITS, (5, 3, 1)))
        self.check(FellTest.ROOM, P, (4, -2, 1), [0, 0], ("short", (1, -1), FellTest.HITS[:1], (4, 2, 1)))
        self.check(FellTest.ROOM, P, (2, 4, 1), [2], ("short", (1, -1), [], (2, 0, 1)))

    def test_what_is_met_later(self):
        for kind in (Mirror, Glass, Hole, Door):
            room = Room([FLOOR, kind((8, -3), (8, 0)), kind((9, -3), (11, -1))])
            self.check(room, self.BEGIN, self.GOAL, [0], ("short", (1, -1), [], (7, -1, 1)))

    def test_what_is_met_earlier(self):
        by, turned = [(1, (1, 1), (6, 0, 1), (1, -1))], [(1, (1, 1), (6, 0, 1), (1, 1))]
        for wall, told in (
            (Mirror((5, 0), (7, 0)), ("other", (1, -1), turned, (6, 0, 1))),
            (Glass((5, 0), (7, 0)), ("short", (1, -1), by, (7, -1, 1))),
            (Hole((5, 0), (7, 0)), ("fell", (1, -1), [], (6, 0, 1))),
            (Door((5, 0), (7, 0)), ("other", (1, -1), turned, (6, 0, 1))),
            (Door((5, 0), (7, 0), 1), ("short", (1, -1), by, (7, -1, 1))),
        ):
            self.check(Room([FLOOR, wall]), self.BEGIN, self.GOAL, [0], told)


class AllTest(PaperCase):
    PAIRS = (((5, 3, 2), (5, 1, 2)), ((1, 5, 2), (7, 4, 3)), ((-1, 1, 2), (5, 7, 2)), ((5, 3, 2), (5, 3, 2)))

    def test_all_short_rows_against_a_second_reckoning(self):
        words = {}
        for room in ROOMS:
            walls = room.walls()
            numbers = range(len(walls))
            rows = [[]] + [[number] for number in numbers] + [list(row) for row in product(numbers, repeat=2)]
            for begin, goal in self.PAIRS:
                if not room.on(begin) and not room.on(goal):
                    for row in rows:
                        told = paper_reckoned(walls, begin, goal, row)
                        self.check(room, begin, goal, row, told)
                        words[told[0]] = True
        self.assertEqual(sorted(words), ["comes", "corner", "fell", "here", "other", "short"])

    def test_longer_rows(self):
        for row in rows_of(BOX, 4)[::3]:
            self.check(BOX, (5, 3, 2), (7, 4, 3), row, paper_reckoned(BOX.walls(), (5, 3, 2), (7, 4, 3), row))

    def test_what_comes_stands_at_the_goal(self):
        for row in rows_of(BOX, 3):
            word, heading, hits, spot = paper(BOX, (5, 3, 2), (7, 4, 3), row)
            if word == "comes":
                T = way_reckoned((5, 3, 2), picture_reckoned(BOX.walls(), row, (7, 4, 3)))[1]
                self.assertEqual(standing_at((5, 3, 2), heading, hits, T), (7, 4, 3))
                self.assertEqual(spot, (7, 4, 3))

    def test_great_numbers(self):
        begin, goal = (GREAT - 2, GREAT - 1, GREAT), (GREAT // 7, GREAT // 2, GREAT // 3)
        for room in (BOX, ROOMS[1]):
            for row in ([], [0], [2], [0, 2], [2, 0, 1]):
                self.check(room, begin, goal, row, paper_reckoned(room.walls(), begin, goal, row))

    def test_what_is_handed_in_stays(self):
        row = [0, 3]
        first = paper(BOX, P, Q, row)
        self.assertEqual(row, [0, 3])
        row.clear()
        self.assertEqual(len(first[2]), 2)
        first[2].clear()
        self.assertEqual(len(paper(BOX, P, Q, [0, 3])[2]), 2)
        here = paper(BOX, P, P, [])
        here[2].append(1)
        self.assertEqual(paper(BOX, P, P, []), ("here", None, [], P))


class WaysTest(unittest.TestCase):
    def check(self, told, expected):
        self.assertEqual(told, expected)
        self.assertIs(type(told), list)
        for way in told:
            self.assertIs(type(way), tuple)
            self.assertIs(type(way[0]), list)
            check_whole_numbers(self, way[1], 2)

    def test_arguments(self):
        check_arguments(self, paper, "room", "P", "Q", "row")
        check_arguments(self, ways, "room", "P", "Q", most=1)

    def test_most_left_out_is_one(self):
        by_one = [([], (1, 0)), ([0], (1, -1)), ([1], (-1, 0)), ([2], (1, 2)), ([3], (1, 0))]
        self.check(ways(BOX, P, Q), by_one)
        self.check(ways(BOX, P, Q, 1), by_one)
        self.check(ways(BOX, P, Q, 0), by_one[:1])

    def test_most_given(self):
        self.check(ways(WELL, P, Q, 0), [([], (1, 0))])
        self.check(ways(WELL, P, Q, 1), [([], (1, 0)), ([0], (1, -1)), ([1], (1, 1))])
        self.check(ways(WELL, P, Q, most=2), [
            ([], (1, 0)), ([0], (1, -1)), ([1], (1, 1)), ([0, 1], (1, -2)), ([1, 0], (1, 2)),
        ])

    def test_none(self):
        room = Room([Hole((2, -9), (2, 9)), Mirror((0, 20), (1, 20))])
        self.check(ways(room, P, Q), [])

    def test_here_is_no_way(self):
        self.check(ways(BOX, P, P, 0), [])
        self.check(ways(BOX, P, P), [([0], (0, -1)), ([1], (-1, 0)), ([2], (0, 1)), ([3], (1, 0))])

    def test_without_walls(self):
        self.check(ways(Room([]), P, Q, 60), [([], (1, 0))])

    def test_just_the_papers_that_say_so(self):
        for room, most in zip(ROOMS, (3, 2, 2, 3)):
            for begin, goal in AllTest.PAIRS:
                if not room.on(begin) and not room.on(goal):
                    papers = [(row, paper(room, begin, goal, row)) for row in rows_of(room, most)]
                    told = [(row, written[1]) for row, written in papers if written[0] == "comes"]
                    self.check(ways(room, begin, goal, most), told)

    def test_back_by_the_rows_the_other_way_about(self):
        walls = [FLOOR, Mirror((0, 3), (4, 3)), Glass((2, 0), (2, 3)), Mirror((4, 1), (4, 2)), Hole((-1, 0), (-1, 3))]
        room = Room(walls)
        for begin, goal in (((1, 1, 1), (3, 1, 1)), ((1, 2, 2), (10, 4, 3)), ((5, 7, 3), (3, 5, 4))):
            there = [row for row, heading in ways(room, begin, goal, 4)]
            back = [row[::-1] for row, heading in ways(room, goal, begin, 4)]
            self.assertEqual(sorted(there), sorted(back))
            self.assertGreater(len(there), 3)

    def test_sixty_between_two_mirrors(self):
        room = Room([Mirror((0, 0), (9, 0)), Mirror((0, 2), (9, 2))])
        told = ways(room, P, Q, 60)
        self.assertEqual([row for row, heading in told], rows_of(room, 60))

    def test_too_many_rows_ahead_of_the_papers(self):
        check_refused(self, TooMany, ways, BOX, P, Q, 6)
        check_refused(self, TooMany, ways, BOX, (0, 0, 1), (0, 0, 1), 6)
        check_refused(self, TooMany, ways, BOX, P, (0, 0, 1), 60)
        check_on_wall(self, 0, ways, BOX, (0, 0, 1), (4, 1, 1), 5)

    def test_what_is_told_is_the_askers(self):
        told = ways(BOX, P, Q)
        for row, heading in told:
            row.append(5)
        told.clear()
        self.assertEqual([row for row, heading in ways(BOX, P, Q)], [[], [0], [1], [2], [3]])


if __name__ == "__main__":
    unittest.main()
