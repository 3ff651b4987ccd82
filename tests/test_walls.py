"""Points 9 to 11 of the document, as bouncewise/walls.py keeps them."""

import unittest
from fractions import Fraction

from bouncewise.errors import BadWall
from bouncewise.headings import mirrored
from bouncewise.walls import Door, Glass, Hole, Mirror, Wall
from checks import ENDS, GREAT, check_arguments, check_refused, check_whole_numbers, place, point_at

KINDS = (Mirror, Glass, Hole, Door)
HEADINGS = ((1, 0), (-1, 0), (0, 1), (1, 1), (-1, 1), (2, 5), (-3, 2), (GREAT, 1 - GREAT))
VERY_GREAT = 10 ** 5000
SMALL = [(x, y) for x in range(-3, 4) for y in range(-3, 4)]


def walls():
    return [Mirror(one, two) for one, two in ENDS.values()]


def line_told(one, two):
    right, up = two[0] - one[0], two[1] - one[1]
    if (right, up) == (0, 0):
        return None
    for line, along in enumerate((up == 0, right == up, right == 0, right == -up)):
        if along:
            return line
    return None


def spots():
    parts = sorted({Fraction(top, bottom) for bottom in (1, 2, 3) for top in range(-3 * bottom, 6 * bottom + 1)})
    return [(x, y) for x in parts for y in parts]


class InterfaceTest(unittest.TestCase):
    def test_arguments(self):
        for kind in (Mirror, Glass, Hole):
            check_arguments(self, kind, "one", "two")
        check_arguments(self, Door, "one", "two", every=2)
        for kind in KINDS:
            wall = kind((0, 0), (1, 1))
            for method in (wall.line, wall.turns, wall.every, wall.word):
                check_arguments(self, method)
            for method in (wall.holds, wall.ends_at, wall.image):
                check_arguments(self, method, "P")
            check_arguments(self, wall.behind, "heading", "count")

    def test_all_stand_under_wall_and_none_under_another(self):
        for kind in KINDS:
            self.assertTrue(issubclass(kind, Wall))
            for other in KINDS:
                self.assertEqual(issubclass(kind, other), kind == other)


class MadeTest(unittest.TestCase):
    def check(self, wall, one, two, line):
        self.assertEqual((wall.one, wall.two, wall.line()), (one, two, line))
        check_whole_numbers(self, wall.one, 2)
        check_whole_numbers(self, wall.two, 2)
        self.assertIs(type(wall.line()), int)

    def test_each_kind_along_each_line_ends_in_either_order(self):
        for kind in KINDS:
            for line, (one, two) in ENDS.items():
                self.check(kind(one, two), one, two, line)
                self.check(kind(two, one), one, two, line)

    def test_small_ends_all_ways(self):
        for one in SMALL:
            for two in SMALL:
                line = line_told(one, two)
                if line is None:
                    check_refused(self, BadWall, Mirror, one, two)
                else:
                    self.check(Mirror(one, two), min(one, two), max(one, two), line)

    def test_the_farthest_ends(self):
        for kind in KINDS:
            self.check(kind((1000, 1000), (-1000, 1000)), (-1000, 1000), (1000, 1000), 0)
            self.check(kind((1000, 1000), (-1000, -1000)), (-1000, -1000), (1000, 1000), 1)
            self.check(kind((-1000, 1000), (-1000, -1000)), (-1000, -1000), (-1000, 1000), 2)
            self.check(kind((1000, -1000), (-1000, 1000)), (-1000, 1000), (1000, -1000), 3)

    def test_each_wall_has_its_own_values(self):
        first, second = Mirror((0, 0), (1, 0)), Mirror((5, 5), (5, 6))
        self.check(first, (0, 0), (1, 0), 0)
        self.check(second, (5, 5), (5, 6), 2)

    def test_what_is_handed_in_by_its_name(self):
        self.check(Glass(two=(0, 0), one=(2, 2)), (0, 0), (2, 2), 1)
        self.assertEqual(Door(one=(0, 0), two=(2, 2), every=3).every(), 3)


class RefusedTest(unittest.TestCase):
    def check_each_kind(self, one, two):
        for kind in KINDS:
            with self.subTest(kind=kind.__name__):
                check_refused(self, BadWall, kind, one, two)
                check_refused(self, BadWall, kind, two, one)

    def test_both_ends_one_point(self):
        for end in ((0, 0), (3, -4), (1000, 1000), (-1000, -1000)):
            self.check_each_kind(end, end)

    def test_along_none_of_the_lines(self):
        for one, two in (((0, 0), (1, 2)), ((0, 0), (2, 1)), ((0, 0), (-1, 2)), ((5, 5), (8, 1)),
                         ((-1000, -1000), (1000, 999)), ((-1000, 1000), (999, -1000))):
            self.check_each_kind(one, two)

    def test_a_number_beyond_the_farthest(self):
        for far in (1001, -1001, GREAT, -GREAT):
            near = 1000 if far > 0 else -1000
            self.check_each_kind((far, 0), (0, 0))
            self.check_each_kind((0, far), (0, 0))
            self.check_each_kind((far, far), (near, near))
            self.check_each_kind((far, -far), (near, -near))
            self.check_each_kind((far, 0), (far, 1))
            self.check_each_kind((0, far), (1, far))

    def test_very_great_ends(self):
        for far in (VERY_GREAT, -VERY_GREAT):
            self.check_each_kind((far, 0), (0, 0))
            self.check_each_kind((far, far), (0, 0))
            self.check_each_kind((far, 7), (far, 7))

    def test_a_doors_number(self):
        for every in (0, -1, -2, -9, 10, 11, 12, 1000, GREAT, -GREAT, VERY_GREAT, -VERY_GREAT):
            check_refused(self, BadWall, Door, (0, 0), (1, 0), every)

    def test_a_door_with_wrong_ends_or_with_both_wrong(self):
        check_refused(self, BadWall, Door, (0, 0), (1, 2), 3)
        check_refused(self, BadWall, Door, (0, 0), (0, 0), 10)


class HoldsTest(unittest.TestCase):
    def check(self, wall, P, told):
        self.assertIs(wall.holds(P), told, (wall.one, wall.two, P))

    def test_ends_and_between_and_just_beyond(self):
        for wall in walls():
            (x, y), (right, up) = wall.one, wall.two
            length = max(right - x, up - y, y - up)
            step = (right - x) // length, (up - y) // length
            for w in (1, 2, 3, 7, GREAT):
                for away, told in ((0, True), (1, True), (-1, False), (length * w, True),
                                   (length * w - 1, True), (length * w + 1, False), (length * w // 2, True)):
                    here = (Fraction(x * w + step[0] * away, w), Fraction(y * w + step[1] * away, w))
                    self.check(wall, point_at(*here), told)

    def test_off_the_straight_line_by_next_to_nothing(self):
        near = Fraction(1, GREAT)
        for wall, (right, up) in zip(walls(), ((0, near), (-near, near), (near, 0), (near, near))):
            x, y = Fraction(wall.one[0] + wall.two[0], 2), Fraction(wall.one[1] + wall.two[1], 2)
            self.check(wall, point_at(x, y), True)
            self.check(wall, point_at(x + right, y + up), False)
            self.check(wall, point_at(x - right, y - up), False)

    def test_small_places_all_ways(self):
        for wall in walls():
            (x, y), (right, up) = wall.one, wall.two
            for here in spots():
                turn = (right - x) * (here[1] - y) - (up - y) * (here[0] - x)
                within = x <= here[0] <= right and min(y, up) <= here[1] <= max(y, up)
                self.check(wall, point_at(*here), turn == 0 and within)

    def test_far_away(self):
        for wall in walls():
            for P in ((GREAT, GREAT, 1), (-GREAT, GREAT, 2), (GREAT, 2, 1), (3, GREAT, 1)):
                self.check(wall, P, False)

    def test_each_kind_alike(self):
        for kind in KINDS:
            wall = kind((2, 2), (0, 0))
            self.check(wall, (1, 1, 2), True)
            self.check(wall, (5, 5, 2), False)
            self.check(wall, (1, 2, 2), False)


class EndsTest(unittest.TestCase):
    def test_just_at_the_two_ends(self):
        for kind in KINDS:
            for one, two in ENDS.values():
                wall = kind(two, one)
                for here in spots():
                    self.assertIs(wall.ends_at(point_at(*here)), here in (one, two), (one, two, here))

    def test_close_to_the_ends_is_not_at_them(self):
        for wall in walls():
            for x, y in (wall.one, wall.two):
                self.assertIs(wall.ends_at((x, y, 1)), True)
                for P in ((x * GREAT + 1, y * GREAT, GREAT), (x * GREAT, y * GREAT - 1, GREAT), (x, y, 2), (y, x, 1)):
                    self.assertIs(wall.ends_at(P), False)


class ImageTest(unittest.TestCase):
    def check(self, wall, P, told):
        image = wall.image(P)
        self.assertEqual(image, told)
        check_whole_numbers(self, image, 3)
        self.assertEqual(wall.image(image), P)

    def test_written_out(self):
        for line, told in ((0, (7, 4, 1)), (1, (-3, 10, 1)), (2, (-1, 0, 1)), (3, (4, -3, 1))):
            self.check(Mirror(*ENDS[line]), (7, 0, 1), told)

    def test_fractions_written_out(self):
        for line, told in ((0, (1, 22, 6)), (1, (-16, 19, 6)), (2, (35, 2, 6)), (3, (22, 23, 6))):
            self.check(Glass(*ENDS[line]), (1, 2, 6), told)

    def test_great_numbers(self):
        for line, told in (
            (0, (GREAT, 4 + GREAT, 1)), (1, (-GREAT - 3, GREAT + 3, 1)),
            (2, (6 - GREAT, -GREAT, 1)), (3, (4 + GREAT, 4 - GREAT, 1)),
        ):
            self.check(Hole(*ENDS[line]), (GREAT, -GREAT, 1), told)
        self.check(Door((0, 0), (0, 1)), (1, -2, GREAT), (-1, -2, GREAT))
        self.check(Door((5, 5), (1, 5)), (1, -2, GREAT), (1, 10 * GREAT + 2, GREAT))

    def test_straight_across_and_as_far_within_and_beyond_the_ends(self):
        for wall in walls():
            (x, y), (right, up) = wall.one, wall.two
            for here in spots()[::3]:
                P = point_at(*here)
                there = place(wall.image(P))
                middle = (here[0] + there[0]) / 2, (here[1] + there[1]) / 2
                self.assertEqual((right - x) * (middle[1] - y), (up - y) * (middle[0] - x))
                self.assertEqual((right - x) * (there[0] - here[0]) + (up - y) * (there[1] - here[1]), 0)
                self.check(wall, P, point_at(*there))

    def test_on_the_straight_line_it_stays(self):
        for wall in walls():
            (x, y), (right, up) = wall.one, wall.two
            for share in (Fraction(0), Fraction(1), Fraction(1, 3), Fraction(-5, 2), Fraction(1, GREAT), Fraction(9)):
                P = point_at(x + share * (right - x), y + share * (up - y))
                self.check(wall, P, P)


class BehindTest(unittest.TestCase):
    COUNTS = (1, 2, 3, 4, 9, 10, GREAT)

    def check(self, wall, heading, count, told):
        behind = wall.behind(heading, count)
        self.assertEqual(behind, told)
        check_whole_numbers(self, behind, 2)

    def test_a_mirror_turns_it(self):
        for line, (one, two) in ENDS.items():
            for heading in HEADINGS:
                for count in self.COUNTS:
                    self.check(Mirror(one, two), heading, count, mirrored(heading, line))

    def test_a_glass_lets_it_by(self):
        for one, two in ENDS.values():
            for heading in HEADINGS:
                for count in self.COUNTS:
                    self.check(Glass(one, two), heading, count, heading)

    def test_a_hole_ends_it(self):
        for one, two in ENDS.values():
            for heading in HEADINGS:
                for count in self.COUNTS:
                    self.assertIsNone(Hole(one, two).behind(heading, count))

    def test_a_door_lets_it_by_at_multiples_of_its_number(self):
        for line, (one, two) in ENDS.items():
            for every in range(1, 10):
                for count in range(1, 30):
                    told = (2, 5) if count % every == 0 else mirrored((2, 5), line)
                    self.check(Door(one, two, every), (2, 5), count, told)

    def test_a_door_at_great_counts(self):
        for every in range(2, 10):
            door = Door((0, 0), (4, 0), every)
            for heading in HEADINGS:
                self.check(door, heading, every * 10 ** 110, heading)
                self.check(door, heading, every * 10 ** 110 + 1, mirrored(heading, 0))
                self.check(door, heading, every * 10 ** 110 - 1, mirrored(heading, 0))
        self.check(Door((0, 0), (4, 0), 9), (2, 5), GREAT, (2, 5))

    def test_a_door_whose_number_is_left_out_lets_by_each_second_time(self):
        door = Door((0, 0), (0, 4))
        for count, told in ((1, (-2, 5)), (2, (2, 5)), (3, (-2, 5)), (4, (2, 5))):
            self.check(door, (2, 5), count, told)

    def test_a_door_keeps_no_count(self):
        door = Door((0, 0), (0, 4), 3)
        for count, told in ((3, (2, 5)), (3, (2, 5)), (1, (-2, 5)), (3, (2, 5)), (2, (-2, 5))):
            self.check(door, (2, 5), count, told)


class KindTest(unittest.TestCase):
    def test_turns_every_and_word(self):
        for kind, turns, every, word in (
            (Mirror, True, 1, "mirror"), (Glass, False, 1, "glass"), (Hole, False, 1, "hole"), (Door, True, 2, "door"),
        ):
            for one, two in ENDS.values():
                wall = kind(one, two)
                self.assertIs(wall.turns(), turns)
                self.assertEqual((wall.every(), wall.word()), (every, word))

    def test_each_number_of_a_door(self):
        for every in range(1, 10):
            door = Door((0, 0), (1, 0), every)
            self.assertEqual(door.every(), every)
            self.assertIs(type(door.every()), int)
            self.assertIs(door.turns(), True)


if __name__ == "__main__":
    unittest.main()
