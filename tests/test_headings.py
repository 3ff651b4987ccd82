"""Points 7 and 8 of the document, as bouncewise/headings.py keeps them."""

import unittest
from math import gcd

from bouncewise.errors import NoWay
from bouncewise.headings import across, heading_of, line_of, mirrored, opposite
from checks import GREAT, check_arguments, check_refused, check_whole_numbers

# Each line with the two headings along it.
ALONG = {0: ((1, 0), (-1, 0)), 1: ((1, 1), (-1, -1)), 2: ((0, 1), (0, -1)), 3: ((1, -1), (-1, 1))}
ALONG_NONE = ((1, 2), (2, 1), (-1, 2), (-2, 1), (1, -2), (2, -1), (-1, -2), (-2, -1), (3, 5), (-7, 4))
GREAT_ONES = ((GREAT, GREAT - 1), (-GREAT, GREAT - 1), (GREAT, 1), (1, -GREAT), (GREAT - 1, -GREAT))


def all_headings():
    return [heading for two in ALONG.values() for heading in two] + list(ALONG_NONE) + list(GREAT_ONES)


class InterfaceTest(unittest.TestCase):
    def test_arguments(self):
        check_arguments(self, heading_of, "a", "b")
        check_arguments(self, line_of, "heading")
        check_arguments(self, mirrored, "heading", "line")
        check_arguments(self, opposite, "heading")


class HeadingTest(unittest.TestCase):
    def check(self, a, b, told):
        heading = heading_of(a, b)
        self.assertEqual(heading, told)
        check_whole_numbers(self, heading, 2)

    def test_kept_as_it_is(self):
        for heading in all_headings():
            self.check(heading[0], heading[1], heading)

    def test_divided_and_the_signs_kept(self):
        self.check(4, 6, (2, 3))
        self.check(-4, 6, (-2, 3))
        self.check(4, -6, (2, -3))
        self.check(-4, -6, (-2, -3))
        self.check(5, 5, (1, 1))
        self.check(-5, 5, (-1, 1))

    def test_one_nought(self):
        self.check(7, 0, (1, 0))
        self.check(-7, 0, (-1, 0))
        self.check(0, 7, (0, 1))
        self.check(0, -7, (0, -1))

    def test_great_numbers(self):
        self.check(GREAT, GREAT, (1, 1))
        self.check(-GREAT, 0, (-1, 0))
        self.check(0, -GREAT, (0, -1))
        self.check(2 * 10 ** 119, -3 * 10 ** 118, (20, -3))
        self.check(GREAT, -GREAT + 1, (GREAT, -GREAT + 1))

    def test_small_numbers_all_ways(self):
        for a in range(-9, 10):
            for b in range(-9, 10):
                if (a, b) != (0, 0):
                    share = gcd(a, b)
                    self.check(a, b, (a // share, b // share))

    def test_two_noughts_are_refused(self):
        check_refused(self, NoWay, heading_of, 0, 0)


class LineTest(unittest.TestCase):
    def test_along_each_line_either_way(self):
        for line, two in ALONG.items():
            for heading in two:
                with self.subTest(heading=heading):
                    self.assertEqual(line_of(heading), line)
                    self.assertIs(type(line_of(heading)), int)

    def test_along_none(self):
        for heading in ALONG_NONE + GREAT_ONES:
            with self.subTest(heading=heading):
                self.assertIsNone(line_of(heading))


class MirroredTest(unittest.TestCase):
    def check(self, heading, line, told):
        with self.subTest(heading=heading, line=line):
            turned = mirrored(heading, line)
            self.assertEqual(turned, told)
            check_whole_numbers(self, turned, 2)

    def test_as_the_document_writes_them(self):
        for a, b in all_headings():
            self.check((a, b), 0, (a, -b))
            self.check((a, b), 1, (b, a))
            self.check((a, b), 2, (-a, b))
            self.check((a, b), 3, (-b, -a))

    def test_written_out(self):
        for line, told in ((0, (2, -5)), (1, (5, 2)), (2, (-2, 5)), (3, (-5, -2))):
            self.check((2, 5), line, told)

    def test_along_its_own_line_it_stays(self):
        for line, two in ALONG.items():
            for heading in two:
                self.check(heading, line, heading)

    def test_straight_against_a_line_it_turns_back(self):
        for line in ALONG:
            for heading in ALONG[(line + 2) % 4]:
                self.check(heading, line, (-heading[0], -heading[1]))

    def test_twice_it_is_as_before(self):
        for heading in all_headings():
            for line in ALONG:
                self.check(mirrored(heading, line), line, heading)


class OppositeTest(unittest.TestCase):
    def test_both_signs_turn(self):
        for a, b in all_headings():
            told = opposite((a, b))
            self.assertEqual(told, (-a, -b))
            check_whole_numbers(self, told, 2)

    def test_it_goes_along_the_same_line(self):
        for heading in all_headings():
            self.assertEqual(line_of(opposite(heading)), line_of(heading))

    def test_it_is_the_heading_mirrored_in_both_of_two_crossing_lines(self):
        for heading in all_headings():
            self.assertEqual(opposite(heading), mirrored(mirrored(heading, 0), 2))
            self.assertEqual(opposite(heading), mirrored(mirrored(heading, 1), 3))


class AcrossTest(unittest.TestCase):
    def test_it_stays_along_the_line_and_changes_off_it(self):
        for line, two in ALONG.items():
            for a, b in all_headings():
                with self.subTest(line=line, heading=(a, b)):
                    stays = across(line, 3 + 7 * a, -5 + 7 * b) == across(line, 3, -5)
                    self.assertEqual(stays, (a, b) in two)

    def test_it_is_the_number_by_which_point_10_writes_the_straight_line(self):
        for line, told in ((0, 5), (1, 3), (2, 2), (3, 7)):
            self.assertEqual(across(line, 2, 5), told)


if __name__ == "__main__":
    unittest.main()
