"""Points 2, 15 and 16 of the document, as bouncewise/meets.py keeps them."""

import unittest
from fractions import Fraction

from bouncewise.meets import first_met, time_to
from bouncewise.rooms import Room
from bouncewise.walls import Door, Glass, Hole, Mirror
from checks import (
    ENDS, GREAT, check_arguments, check_whole_numbers, first_reckoned, point_at, time_reckoned, told_of,
)

KINDS = (Mirror, Glass, Hole, Door)
SMALL_HEADINGS = ((1, 0), (-1, 0), (0, 1), (0, -1), (1, 1), (-1, -1), (1, -1), (-1, 1), (2, 1), (-1, 2), (3, -2), (-5, -3))
SMALL_POINTS = [
    point_at(Fraction(x, w), Fraction(y, w)) for w in (1, 2, 3) for x in range(-2 * w, 4 * w + 1)
    for y in range(-2 * w, 5 * w + 1) if w == 1 or (x + y) % 3 == 1
]


class InterfaceTest(unittest.TestCase):
    def test_arguments(self):
        check_arguments(self, time_to, "wall", "P", "heading")
        check_arguments(self, first_met, "room", "P", "heading")


class TimeTest(unittest.TestCase):
    def check(self, wall, P, heading, told):
        t = time_to(wall, P, heading)
        self.assertEqual(t, told, (wall.one, wall.two, P, heading))
        if told is not None:
            check_whole_numbers(self, t, 2)

    def test_across_each_line(self):
        self.check(Mirror((-1, 2), (4, 2)), (0, 0, 1), (1, 1), (2, 1))
        self.check(Mirror((-2, 1), (2, 5)), (0, 0, 1), (0, 1), (3, 1))
        self.check(Mirror((3, -2), (3, 1)), (0, 0, 1), (2, -1), (3, 2))
        self.check(Mirror((-1, 5), (3, 1)), (0, 0, 1), (1, 2), (4, 3))

    def test_from_either_side(self):
        self.check(Mirror((0, 0), (4, 0)), (1, 3, 1), (0, -1), (3, 1))
        self.check(Mirror((0, 0), (4, 0)), (1, -3, 1), (0, 1), (3, 1))
        self.check(Mirror((0, 0), (4, 4)), (3, 0, 1), (-1, 1), (3, 2))
        self.check(Mirror((0, 0), (4, 4)), (0, 3, 1), (1, -1), (3, 2))

    def test_to_the_ends_and_just_past_them(self):
        wall = Glass((0, 0), (4, 0))
        self.check(wall, (0, 1, 1), (0, -1), (1, 1))
        self.check(wall, (4, 1, 1), (0, -1), (1, 1))
        self.check(wall, (-1, GREAT, GREAT), (0, -1), None)
        self.check(wall, (1, GREAT, GREAT), (0, -1), (1, 1))
        self.check(wall, (4 * GREAT + 1, GREAT, GREAT), (0, -1), None)
        self.check(wall, (4 * GREAT - 1, GREAT, GREAT), (0, -1), (1, 1))
        self.check(wall, (6, 2, 1), (-1, -1), (2, 1))
        self.check(wall, (7, 2, 1), (-1, -1), None)

    def test_away_from_it(self):
        self.check(Mirror((0, 0), (4, 0)), (1, 3, 1), (0, 1), None)
        self.check(Mirror((0, 0), (4, 0)), (1, -3, 1), (1, -7), None)
        self.check(Mirror((0, 0), (4, 4)), (3, 0, 1), (1, -1), None)
        self.check(Mirror((0, 0), (0, 4)), (1, 2, 2), (1, 0), None)

    def test_beside_it_along_its_line(self):
        for one, two in ENDS.values():
            wall = Hole(one, two)
            length = max(abs(two[0] - one[0]), abs(two[1] - one[1]))
            a, b = (two[0] - one[0]) // length, (two[1] - one[1]) // length
            for P in ((0, 0, 1), (1, 0, 1000), (20, 21, 1), (-20, 22, 1)):
                self.check(wall, P, (a, b), None)
                self.check(wall, P, (-a, -b), None)

    def test_from_a_point_on_the_wall_across(self):
        for one, two in ENDS.values():
            for P in ((*one, 1), (*two, 1), (one[0] + two[0], one[1] + two[1], 2)):
                for heading in ((1, 2), (-1, 2), (5, -3), (-7, -2)):
                    self.check(Door(one, two), P, heading, None)

    def test_along_its_own_straight_line(self):
        for one, two in ENDS.values():
            length = max(abs(two[0] - one[0]), abs(two[1] - one[1]))
            a, b = (two[0] - one[0]) // length, (two[1] - one[1]) // length
            for away in (Fraction(-2), Fraction(-1, 3), Fraction(0), Fraction(1, GREAT), Fraction(1, 2),
                         length - Fraction(1, 7), Fraction(length), length + Fraction(3, 2), Fraction(GREAT)):
                P = point_at(one[0] + away * a, one[1] + away * b)
                ahead = -away if away < 0 else length - away if away < length else None
                behind = away - length if away > length else away if away > 0 else None
                self.check(Mirror(one, two), P, (a, b), told_of(ahead))
                self.check(Mirror(one, two), P, (-a, -b), told_of(behind))

    def test_along_written_out(self):
        wall = Mirror((2, 0), (5, 0))
        self.check(wall, (0, 0, 1), (1, 0), (2, 1))
        self.check(wall, (0, 0, 1), (-1, 0), None)
        self.check(wall, (2, 0, 1), (1, 0), (3, 1))
        self.check(wall, (2, 0, 1), (-1, 0), None)
        self.check(wall, (7, 0, 2), (1, 0), (3, 2))
        self.check(wall, (7, 0, 2), (-1, 0), (3, 2))
        self.check(wall, (5, 0, 1), (1, 0), None)
        self.check(wall, (5, 0, 1), (-1, 0), (3, 1))
        self.check(wall, (9, 0, 1), (-1, 0), (4, 1))

    def test_great_numbers(self):
        wall = Mirror((-1000, 0), (1000, 0))
        self.check(wall, (0, GREAT, 1), (0, -1), (GREAT, 1))
        self.check(wall, (0, 1, GREAT), (1, -1), (1, GREAT))
        self.check(wall, (GREAT, GREAT, 1), (-1, -1), (GREAT, 1))
        self.check(wall, (0, 1, 1), (GREAT, -1), None)
        self.check(wall, (0, 1, 1), (GREAT - 1, -GREAT), (1, GREAT))
        self.check(wall, (-GREAT, 0, 1), (1, 0), (GREAT - 1000, 1))
        self.check(Mirror((0, 0), (9, 9)), (1, 0, GREAT), (GREAT, GREAT - 1), None)
        self.check(Mirror((0, 0), (9, 9)), (0, 1, GREAT), (GREAT, GREAT - 1), (1, GREAT))

    def test_small_numbers_all_ways(self):
        for one, two in ENDS.values():
            for wall in (Mirror(one, two), Glass(one, (2 * two[0] - one[0], 2 * two[1] - one[1]))):
                for P in SMALL_POINTS:
                    for heading in SMALL_HEADINGS:
                        self.check(wall, P, heading, told_of(time_reckoned(wall, P, heading)))

    def test_each_kind_alike(self):
        for kind in KINDS:
            self.check(kind((0, 3), (4, 3)), (1, 2, 2), (1, 1), (2, 1))
            self.check(kind((0, 3), (4, 3)), (1, 2, 2), (1, -1), None)


class FirstTest(unittest.TestCase):
    def check(self, room, P, heading, told):
        met = first_met(room, P, heading)
        self.assertEqual(met, told)
        if told is not None:
            self.assertIs(type(met), tuple)
            check_whole_numbers(self, met[0], 2)
            check_whole_numbers(self, met[1], 3)
            self.assertIs(type(met[2]), list)

    def test_in_a_box(self):
        room = Room([Mirror((0, 0), (4, 0)), Glass((0, 0), (0, 3)), Hole((0, 3), (4, 3)), Door((4, 0), (4, 3))])
        self.check(room, (1, 1, 1), (0, -1), ((1, 1), (1, 0, 1), [0]))
        self.check(room, (1, 1, 1), (-2, 1), ((1, 2), (0, 3, 2), [1]))
        self.check(room, (1, 1, 1), (1, 1), ((2, 1), (3, 3, 1), [2]))
        self.check(room, (1, 1, 1), (2, 1), ((3, 2), (8, 5, 2), [3]))
        self.check(room, (1, 1, 1), (-1, -1), ((1, 1), (0, 0, 1), [0, 1]))
        self.check(room, (1, 1, 1), (3, 2), ((1, 1), (4, 3, 1), [2, 3]))

    def test_none_ahead(self):
        room = Room([Mirror((0, 0), (4, 0)), Mirror((0, 5), (4, 5))])
        self.check(room, (1, 1, 1), (1, 0), None)
        self.check(room, (1, 7, 1), (0, 1), None)
        self.check(room, (0, 5, 1), (-1, 0), None)

    def test_without_walls(self):
        self.check(Room([]), (0, 0, 1), (1, 0), None)
        self.check(Room([]), (GREAT, 1, GREAT), (GREAT, GREAT - 1), None)

    def test_the_nearest_of_several_in_whatever_order(self):
        walls = [Mirror((0, height), (4, height)) for height in (4, 2, 8, 6)]
        for turned in range(4):
            room = Room(walls[turned:] + walls[:turned])
            self.check(room, (1, 1, 1), (0, 1), ((1, 1), (1, 2, 1), [(1 - turned) % 4]))
            self.check(room, (1, 2, 1), (0, 1), ((2, 1), (1, 4, 1), [(0 - turned) % 4]))
            self.check(room, (1, 9, 1), (0, -1), ((1, 1), (1, 8, 1), [(2 - turned) % 4]))

    def test_several_walls_at_one_point(self):
        spokes = [Mirror((5, 5), (5 + x, 5 + y)) for x in (-2, 0, 2) for y in (-2, 0, 2) if (x, y) != (0, 0)]
        room = Room([Glass((20, 0), (20, 9))] + spokes)
        self.check(room, (4, 1, 1), (1, 4), ((1, 1), (5, 5, 1), [1, 2, 3, 4, 5, 6, 7, 8]))

    def test_a_crossing_between_whole_points(self):
        room = Room([Hole((0, 1), (1, 0)), Mirror((0, 0), (1, 1))])
        self.check(room, (1, 5, 2), (0, -1), ((2, 1), (1, 1, 2), [0, 1]))

    def test_from_a_point_on_walls(self):
        room = Room([Mirror((0, 0), (4, 0)), Glass((0, 3), (4, 3)), Hole((1, -2), (1, 2))])
        self.check(room, (2, 0, 1), (0, 1), ((3, 1), (2, 3, 1), [1]))
        self.check(room, (1, 0, 1), (1, 1), ((3, 1), (4, 3, 1), [1]))
        self.check(room, (1, 0, 1), (0, 1), ((2, 1), (1, 2, 1), [2]))
        self.check(room, (2, 0, 1), (0, -1), None)

    def test_along_a_wall_up_to_what_crosses_it(self):
        room = Room([Mirror((0, 0), (9, 0)), Glass((5, -1), (5, 1)), Hole((9, 0), (9, 4))])
        self.check(room, (1, 0, 1), (1, 0), ((4, 1), (5, 0, 1), [0, 1]))
        self.check(room, (5, 0, 1), (1, 0), ((4, 1), (9, 0, 1), [0, 2]))
        self.check(room, (5, 0, 1), (-1, 0), ((5, 1), (0, 0, 1), [0]))
        self.check(room, (-1, 0, 2), (1, 0), ((1, 2), (0, 0, 1), [0]))

    def test_times_that_lie_close(self):
        level, upright = Mirror((0, 0), (1000, 0)), Glass((1000, -5), (1000, 5))
        for level_at, walls in ((0, [level, upright]), (1, [upright, level])):
            room = Room(walls)
            for P, point, numbers in (
                ((1000 * GREAT - 2, 3, GREAT), (1000 * GREAT, 1, GREAT), [1 - level_at]),
                ((1000 * GREAT - 3, 2, GREAT), (1000 * GREAT - 1, 0, GREAT), [level_at]),
                ((1000 * GREAT - 2, 2, GREAT), (1000, 0, 1), [0, 1]),
            ):
                self.check(room, P, (1, -1), ((2, GREAT), point, numbers))

    def test_great_numbers(self):
        room = Room([Mirror((-1000, 0), (1000, 0)), Door((-1000, 1), (1000, 1), 9)])
        self.check(room, (0, GREAT, 1), (0, -1), ((GREAT - 1, 1), (0, 1, 1), [1]))
        self.check(room, (0, 1, GREAT), (1, -1), ((1, GREAT), (1, 0, GREAT), [0]))
        self.check(room, (0, 1, GREAT), (GREAT, GREAT - 1), ((1, GREAT), (1, 1, 1), [1]))

    def test_small_numbers_all_ways(self):
        walls = [Glass(one, two) for one, two in ENDS.values()]
        room = Room(walls)
        for P in SMALL_POINTS:
            for heading in SMALL_HEADINGS:
                met = first_reckoned(walls, P, heading)
                self.check(room, P, heading, None if met is None else (told_of(met[0]), met[1], met[2]))


class ListsTest(unittest.TestCase):
    def test_what_is_told_is_the_askers(self):
        room = Room([Mirror((0, 0), (4, 0)), Glass((2, 0), (2, 3))])
        told = ((1, 1), (2, 0, 1), [0, 1])
        first = first_met(room, (1, 1, 1), (1, -1))
        self.assertEqual(first, told)
        first[2].append(7)
        first[2][0] = 5
        self.assertEqual(first_met(room, (1, 1, 1), (1, -1)), told)
        self.assertEqual(room.on((2, 0, 1)), [0, 1])

    def test_what_is_handed_in_stays(self):
        walls = [Mirror((0, 0), (4, 0)), Door((2, 0), (2, 3))]
        room, P, heading = Room(walls), (1, 1, 1), (1, -1)
        first_met(room, P, heading)
        time_to(walls[1], P, heading)
        self.assertEqual((room.walls(), P, heading), (walls, (1, 1, 1), (1, -1)))
        self.assertEqual([(wall.one, wall.two) for wall in walls], [((0, 0), (4, 0)), ((2, 0), (2, 3))])


if __name__ == "__main__":
    unittest.main()
