"""Points 2, 12 and 13 of the document, as bouncewise/rooms.py keeps them."""

import unittest
from fractions import Fraction
from itertools import combinations

from bouncewise.errors import Overlap, TooMany
from bouncewise.rooms import Room
from bouncewise.walls import Door, Glass, Hole, Mirror
from checks import ENDS, GREAT, check_arguments, check_refused, check_whole_numbers, point_at

# Two level walls that cross an upright one (in its middle and at its end), a falling one apart from them, and a
# rising one that begins in the middle of the second level wall.
MIXED = (((0, 0), (4, 0)), ((0, 3), (6, 3)), ((2, 3), (2, -3)), ((8, 2), (10, 0)), ((4, 3), (7, 6)))


def mixed():
    kinds = (Mirror, Glass, Hole, Door, Mirror)
    return Room([kind(one, two) for kind, (one, two) in zip(kinds, MIXED)])


def rungs(number):
    return [Mirror((0, height), (5, height)) for height in range(number)]


def small_walls():
    ends = [(x, y) for x in range(4) for y in range(4)]
    lines = [(one, two) for one, two in combinations(ends, 2)
             if one[0] == two[0] or one[1] == two[1] or abs(one[0] - two[0]) == abs(one[1] - two[1])]
    return [Glass(one, two) for one, two in lines]


# Whole points and places halfway in common: two where walls have a stretch in common, however short it is.
def in_common(one, other):
    def spots(wall):
        length = 2 * max(abs(wall.two[0] - wall.one[0]), abs(wall.two[1] - wall.one[1]))
        right, up = Fraction(wall.two[0] - wall.one[0], length), Fraction(wall.two[1] - wall.one[1], length)
        return {(wall.one[0] + k * right, wall.one[1] + k * up) for k in range(length + 1)}
    return len(spots(one) & spots(other))


class InterfaceTest(unittest.TestCase):
    def test_arguments(self):
        check_arguments(self, Room, "walls")
        room = Room([])
        for method in (room.walls, room.box):
            check_arguments(self, method)
        for method in (room.on, room.is_corner):
            check_arguments(self, method, "P")


class NumberTest(unittest.TestCase):
    def test_up_to_forty_walls(self):
        for number in (0, 1, 2, 39, 40):
            walls = rungs(number)
            self.assertEqual(Room(walls).walls(), walls)

    def test_more_are_refused(self):
        for number in (41, 42, 100):
            check_refused(self, TooMany, Room, rungs(number))

    def test_the_order_is_kept(self):
        walls = rungs(7)
        turned = walls[::-1]
        self.assertEqual(Room(turned).walls(), turned)

    def test_too_many_goes_ahead_of_overlap(self):
        check_refused(self, TooMany, Room, rungs(1) * 41)
        check_refused(self, TooMany, Room, rungs(40) + [Mirror((1, 0), (2, 0))])
        check_refused(self, TooMany, Room, [Mirror((1, 0), (2, 0))] + rungs(40))


class OverlapTest(unittest.TestCase):
    def check(self, walls, one, other):
        check_refused(self, Overlap, Room, walls)
        try:
            Room(walls)
        except Overlap as error:
            self.assertEqual((error.one, error.other), (one, other))
            check_whole_numbers(self, (error.one, error.other), 2)

    def test_small_walls_all_ways(self):
        for one, other in combinations(small_walls(), 2):
            for walls in ([one, other], [other, one]):
                if in_common(one, other) > 1:
                    self.check(walls, 0, 1)
                else:
                    self.assertEqual(Room(walls).walls(), walls)

    def test_one_point_in_common(self):
        for one, other in (
            (Mirror((0, 0), (2, 0)), Mirror((2, 0), (4, 0))), (Mirror((0, 0), (2, 2)), Glass((2, 2), (3, 3))),
            (Hole((0, 0), (0, 2)), Mirror((0, 2), (0, 5))), (Door((0, 0), (2, -2)), Mirror((4, -4), (2, -2))),
            (Mirror((0, 0), (2, 2)), Mirror((0, 2), (2, 0))), (Mirror((0, 0), (4, 0)), Mirror((2, 0), (2, 5))),
            (Mirror((0, 0), (1, 1)), Mirror((0, 1), (1, 0))), (Mirror((0, 0), (4, 0)), Mirror((1, 0), (3, 2))),
        ):
            self.assertEqual(len(Room([one, other]).walls()), 2)
            self.assertEqual(len(Room([other, one]).walls()), 2)

    def test_more_points_in_common_along_each_line(self):
        for (x, y), (right, up) in ENDS.values():
            length = max(abs(right - x), abs(up - y))
            step = (right - x) // length, (up - y) // length
            whole = Mirror((x, y), (right, up))
            for first, last in ((0, length), (0, 1), (1, 2), (length - 1, length), (length - 1, length + 3), (-2, 1)):
                part = Glass((x + first * step[0], y + first * step[1]), (x + last * step[0], y + last * step[1]))
                self.check([whole, part], 0, 1)
                self.check([part, whole], 0, 1)
            for first, last in ((length, length + 1), (length + 1, length + 2), (-1, 0), (-3, -1)):
                part = Glass((x + first * step[0], y + first * step[1]), (x + last * step[0], y + last * step[1]))
                self.assertEqual(Room([whole, part]).walls(), [whole, part])

    def test_one_wall_twice_and_two_alike(self):
        wall = Door((0, 0), (3, 3), 4)
        self.check([wall, wall], 0, 1)
        self.check([Mirror((0, 0), (3, 3)), wall], 0, 1)

    def test_the_least_other_and_with_it_the_least_one(self):
        low, high = Mirror((0, 0), (4, 0)), Mirror((0, 1), (4, 1))
        self.check([low, high, Glass((1, 1), (2, 1)), Glass((1, 0), (2, 0))], 1, 2)
        self.check([low, high, Glass((1, 0), (2, 0)), Glass((1, 1), (2, 1))], 0, 2)
        self.check([Glass((0, 0), (2, 0)), Glass((2, 0), (4, 0)), high, Glass((1, 0), (3, 0))], 0, 3)
        self.check([high, Glass((2, 0), (4, 0)), Glass((0, 0), (2, 0)), Glass((1, 0), (3, 0))], 1, 3)
        self.check([low, low, low], 0, 1)
        self.check([high, low, Glass((0, 1), (0, 5)), low, high], 1, 3)

    def test_the_last_two_of_forty(self):
        self.check(rungs(39) + [Mirror((5, 38), (4, 38))], 38, 39)
        self.check(rungs(39) + [Mirror((0, 0), (1, 0))], 0, 39)


class ListsTest(unittest.TestCase):
    def test_the_list_handed_in_is_left_and_may_be_changed(self):
        walls = rungs(3)
        kept = list(walls)
        room = Room(walls)
        self.assertEqual(walls, kept)
        walls.append(Mirror((9, 9), (12, 12)))
        walls[0] = Hole((20, 20), (21, 20))
        self.check_three_rungs(room, kept)
        walls.clear()
        self.check_three_rungs(room, kept)

    def test_a_list_told_may_be_changed(self):
        kept = rungs(3)
        room = Room(list(kept))
        room.walls().append(Mirror((9, 9), (12, 12)))
        room.walls().clear()
        told = room.on((1, 1, 1))
        told.append(7)
        self.check_three_rungs(room, kept)

    def check_three_rungs(self, room, walls):
        self.assertEqual(room.walls(), walls)
        self.assertEqual(room.on((1, 1, 1)), [1])
        self.assertEqual(room.on((10, 10, 1)), [])
        self.assertEqual(room.box(), (0, 0, 5, 2))

    def test_each_asking_tells_another_list(self):
        room = mixed()
        self.assertIsNot(room.walls(), room.walls())
        self.assertIsNot(room.on((2, 0, 1)), room.on((2, 0, 1)))

    def test_a_wall_in_several_rooms(self):
        wall = Door((0, 0), (4, 0), 3)
        first = Room([wall])
        second = Room([Mirror((0, 1), (4, 1)), wall])
        self.assertEqual((first.on((1, 0, 1)), second.on((1, 0, 1))), ([0], [1]))
        self.assertEqual((first.box(), second.box()), ((0, 0, 4, 0), (0, 0, 4, 1)))
        self.assertEqual(Room(first.walls()).walls(), [wall])


class OnTest(unittest.TestCase):
    def check(self, P, numbers, corner):
        room = mixed()
        self.assertEqual(room.on(P), numbers)
        self.assertIs(type(room.on(P)), list)
        self.assertIs(room.is_corner(P), corner)

    def test_ends_of_one_wall_alone(self):
        for P, number in (((0, 0, 1), 0), ((4, 0, 1), 0), ((0, 3, 1), 1), ((2, -3, 1), 2), ((8, 2, 1), 3),
                          ((10, 0, 1), 3), ((7, 6, 1), 4)):
            self.check(P, [number], True)

    def test_crossings(self):
        self.check((2, 0, 1), [0, 2], True)
        self.check((2, 3, 1), [1, 2], True)
        self.check((4, 3, 1), [1, 4], True)

    def test_points_of_one_wall_alone(self):
        for P, number in (((1, 0, 1), 0), ((5, 0, 2), 0), ((5, 3, 1), 1), ((2, 1, 1), 2), ((4, -1, 2), 2),
                          ((9, 1, 1), 3), ((11, 9, 2), 4), ((1, 0, GREAT), 0), ((2 * GREAT, 1, GREAT), 2)):
            self.check(P, [number], False)

    def test_points_of_none(self):
        for P in ((1, 1, 1), (5, 0, 1), (2, -4, 1), (1, 1, GREAT), (GREAT, GREAT, 1), (3, 2, 1), (8, 7, 1)):
            self.check(P, [], False)

    def test_walls_that_cross_between_whole_points(self):
        room = Room([Glass((0, 0), (1, 1)), Hole((0, 1), (1, 0))])
        self.assertEqual(room.on((1, 1, 2)), [0, 1])
        self.assertIs(room.is_corner((1, 1, 2)), True)
        self.assertIs(room.is_corner((1, 1, 3)), False)
        self.assertEqual(room.on((1, 1, 3)), [0])

    def test_many_walls_at_one_point(self):
        spokes = [Mirror((0, 0), (x, y)) for x in (-2, 0, 2) for y in (-2, 0, 2) if (x, y) != (0, 0)]
        room = Room(spokes)
        self.assertEqual(room.on((0, 0, 1)), [0, 1, 2, 3, 4, 5, 6, 7])
        self.assertIs(room.is_corner((0, 0, 1)), True)

    def test_a_row_of_walls_meets_end_to_end(self):
        room = Room([Mirror((2, 0), (4, 0)), Mirror((0, 0), (2, 0))])
        self.assertEqual(room.on((2, 0, 1)), [0, 1])
        self.assertIs(room.is_corner((2, 0, 1)), True)
        self.assertIs(room.is_corner((3, 0, 1)), False)

    def test_small_places_all_ways(self):
        room = mixed()
        walls = room.walls()
        for x in range(-2, 26):
            for y in range(-8, 14):
                P = point_at(Fraction(x, 2), Fraction(y, 2))
                numbers = [number for number in range(5) if walls[number].holds(P)]
                ends = [end for one, two in MIXED for end in ((*one, 1), (*two, 1))]
                self.check(P, numbers, len(numbers) > 1 or P in ends)


class BoxTest(unittest.TestCase):
    def check(self, walls, told):
        box = Room(walls).box()
        self.assertEqual(box, told)
        check_whole_numbers(self, box, 4)

    def test_without_walls(self):
        room = Room([])
        self.assertIsNone(room.box())
        self.assertEqual((room.walls(), room.on((0, 0, 1))), ([], []))
        self.assertIs(room.is_corner((0, 0, 1)), False)

    def test_of_one_wall(self):
        self.check([Mirror((1, 2), (5, 2))], (1, 2, 5, 2))
        self.check([Mirror((1, 2), (1, -2))], (1, -2, 1, 2))
        self.check([Mirror((1, 2), (-3, -2))], (-3, -2, 1, 2))
        self.check([Mirror((1, 2), (-3, 6))], (-3, 2, 1, 6))

    def test_of_several(self):
        self.check([Mirror(one, two) for one, two in MIXED], (0, -3, 10, 6))
        self.check([Hole((5, 5), (6, 6)), Glass((-7, 8), (-7, 9)), Door((0, -4), (1, -4))], (-7, -4, 6, 9))

    def test_the_farthest(self):
        self.check([Mirror((-1000, 1000), (1000, -1000))], (-1000, -1000, 1000, 1000))


if __name__ == "__main__":
    unittest.main()
