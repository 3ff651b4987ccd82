"""Points 4 to 7 of the document, as bouncewise/points.py keeps them."""

import unittest
from fractions import Fraction
from math import gcd

from bouncewise.errors import NoPoint
from bouncewise.points import added, as_point, divisor, point_of, sooner, spot_at, time_between, time_of
from checks import GREAT, check_arguments, check_refused, check_whole_numbers

SMALL = range(-6, 7)
TIMES = sorted({(part.numerator, part.denominator) for part in (Fraction(a, b) for a in SMALL for b in range(1, 7))})


def fibonacci_pair():
    one, other = 1, 1
    while other <= GREAT:
        one, other = other, one + other
    return other - one, one


class InterfaceTest(unittest.TestCase):
    def test_arguments(self):
        check_arguments(self, divisor, "one", "other")
        check_arguments(self, point_of, "x", "y", "w")
        check_arguments(self, time_of, "top", "bottom")
        check_arguments(self, sooner, "one", "other")
        check_arguments(self, added, "one", "other")
        check_arguments(self, spot_at, "P", "heading", "t")


class LeftAsItWasTest(unittest.TestCase):
    def test_what_is_handed_in_stays_and_is_answered_alike_again(self):
        P, heading, one, other = (1, 2, 3), (2, -3), (5, 4), (-7, 6)
        for asked, arguments in ((spot_at, (P, heading, one)), (added, (one, other)), (sooner, (one, other))):
            first = asked(*arguments)
            self.assertEqual(asked(*arguments), first)
        self.assertEqual((P, heading, one, other), ((1, 2, 3), (2, -3), (5, 4), (-7, 6)))


class DivisorTest(unittest.TestCase):
    def test_ordinary(self):
        for one, other, told in ((12, 18, 6), (18, 12, 6), (7, 5, 1), (9, 3, 3), (1, 1, 1), (60, 84, 12)):
            self.assertEqual(divisor(one, other), told)

    def test_nought_and_a_number_is_its_size(self):
        for number in (1, -1, 7, -7, GREAT, -GREAT):
            self.assertEqual(divisor(0, number), abs(number))
            self.assertEqual(divisor(number, 0), abs(number))

    def test_two_noughts(self):
        self.assertEqual(divisor(0, 0), 0)

    def test_signs_do_not_count(self):
        for one, other in ((12, 18), (-12, 18), (12, -18), (-12, -18)):
            self.assertEqual(divisor(one, other), 6)

    def test_small_numbers_all_ways(self):
        for one in range(-30, 31):
            for other in range(-30, 31):
                self.assertEqual(divisor(one, other), gcd(one, other))

    def test_great_numbers(self):
        self.assertEqual(divisor(GREAT, GREAT), GREAT)
        self.assertEqual(divisor(GREAT, -GREAT), GREAT)
        self.assertEqual(divisor(GREAT, GREAT - 1), 1)
        self.assertEqual(divisor(GREAT, 1), 1)
        self.assertEqual(divisor(-(10 ** 119), 6 * 10 ** 60), 2 * 10 ** 60)
        self.assertEqual(divisor(10 ** 59 * (10 ** 60 + 1), 10 ** 59 * 3), 10 ** 59)

    def test_numbers_that_take_the_most_rests(self):
        one, other = fibonacci_pair()
        self.assertEqual(divisor(one, other), 1)
        self.assertEqual(divisor(other, one), 1)

    def test_told_is_a_whole_number(self):
        for one, other in ((0, 0), (0, -3), (4, 6), (-4, -6), (GREAT, 3)):
            self.assertIs(type(divisor(one, other)), int)


class PointTest(unittest.TestCase):
    def check(self, x, y, w, told):
        point = point_of(x, y, w)
        self.assertEqual(point, told)
        check_whole_numbers(self, point, 3)

    def test_kept_as_it_is(self):
        for x, y, w in ((0, 0, 1), (3, 4, 1), (-3, 4, 5), (1, 2, 3), (7, -7, 2), (0, 1, 9)):
            self.check(x, y, w, (x, y, w))

    def test_divided(self):
        self.check(2, 4, 6, (1, 2, 3))
        self.check(-10, 15, 5, (-2, 3, 1))
        self.check(0, 6, 4, (0, 3, 2))
        self.check(6, 0, 4, (3, 0, 2))
        self.check(0, 0, 7, (0, 0, 1))

    def test_a_divisor_of_two_of_the_three_stays(self):
        self.check(6, 10, 15, (6, 10, 15))
        self.check(4, 6, 3, (4, 6, 3))
        self.check(4, 3, 2, (4, 3, 2))
        self.check(3, 4, 2, (3, 4, 2))

    def test_third_below_nought(self):
        self.check(3, 4, -1, (-3, -4, 1))
        self.check(-3, 4, -5, (3, -4, 5))
        self.check(2, -4, -6, (-1, 2, 3))
        self.check(0, 0, -7, (0, 0, 1))
        self.check(0, -5, -10, (0, 1, 2))

    def test_great_numbers(self):
        self.check(GREAT, -GREAT, 1, (GREAT, -GREAT, 1))
        self.check(GREAT, -GREAT, GREAT, (1, -1, 1))
        self.check(GREAT, GREAT, -GREAT, (-1, -1, 1))
        self.check(-GREAT, GREAT - 1, GREAT, (-GREAT, GREAT - 1, GREAT))
        self.check(10 ** 119, 3 * 10 ** 118, -(10 ** 119), (-10, -3, 10))

    def test_small_numbers_all_ways(self):
        for x in SMALL:
            for y in SMALL:
                for w in SMALL:
                    if w != 0:
                        self.check_form(point_of(x, y, w), x, y, w)

    def check_form(self, point, x, y, w):
        self.assertGreaterEqual(point[2], 1)
        self.assertEqual(gcd(*point), 1)
        self.assertEqual(Fraction(point[0], point[2]), Fraction(x, w))
        self.assertEqual(Fraction(point[1], point[2]), Fraction(y, w))

    def test_a_whole_point_as_a_point(self):
        for x, y in ((0, 0), (3, -4), (-1000, 1000), (GREAT, -GREAT)):
            self.assertEqual(as_point((x, y)), (x, y, 1))

    def test_third_of_nought_is_refused(self):
        for x, y in ((0, 0), (1, 2), (-1, 0), (0, 5), (GREAT, -GREAT)):
            check_refused(self, NoPoint, point_of, x, y, 0)


class TimeTest(unittest.TestCase):
    def check(self, top, bottom, told):
        time = time_of(top, bottom)
        self.assertEqual(time, told)
        check_whole_numbers(self, time, 2)

    def test_ordinary(self):
        self.check(3, 2, (3, 2))
        self.check(-3, 2, (-3, 2))
        self.check(5, 1, (5, 1))
        self.check(6, 4, (3, 2))
        self.check(-6, 3, (-2, 1))

    def test_nought(self):
        self.check(0, 1, (0, 1))
        self.check(0, 9, (0, 1))
        self.check(0, -9, (0, 1))

    def test_bottom_below_nought(self):
        self.check(3, -2, (-3, 2))
        self.check(-3, -2, (3, 2))
        self.check(4, -6, (-2, 3))
        self.check(-4, -6, (2, 3))

    def test_great_numbers(self):
        self.check(GREAT, 1, (GREAT, 1))
        self.check(-GREAT, -GREAT, (1, 1))
        self.check(GREAT, -GREAT, (-1, 1))
        self.check(GREAT - 1, GREAT, (GREAT - 1, GREAT))
        self.check(1, -GREAT, (-1, GREAT))

    def test_small_numbers_all_ways(self):
        for top in SMALL:
            for bottom in SMALL:
                if bottom != 0:
                    part = Fraction(top, bottom)
                    self.check(top, bottom, (part.numerator, part.denominator))

    def test_bottom_of_nought_is_refused(self):
        for top in (0, 1, -1, GREAT, -GREAT):
            check_refused(self, NoPoint, time_of, top, 0)


class SoonerTest(unittest.TestCase):
    def check(self, one, other, told):
        self.assertIs(sooner(one, other), told)

    def test_ordinary(self):
        self.check((1, 3), (1, 2), True)
        self.check((1, 2), (1, 3), False)
        self.check((2, 1), (5, 2), True)
        self.check((5, 2), (2, 1), False)

    def test_alike_is_not_sooner(self):
        for time in ((0, 1), (3, 2), (-3, 2), (GREAT, GREAT - 1)):
            self.check(time, time, False)

    def test_sign_turned(self):
        for top, bottom in ((1, 1), (3, 2), (1, GREAT), (GREAT, 1)):
            self.check((-top, bottom), (top, bottom), True)
            self.check((top, bottom), (-top, bottom), False)

    def test_below_nought(self):
        self.check((-1, 2), (-1, 3), True)
        self.check((-1, 3), (-1, 2), False)
        self.check((-1, 2), (0, 1), True)
        self.check((0, 1), (-1, 2), False)
        self.check((0, 1), (1, 2), True)

    def test_great_numbers_that_lie_close(self):
        less = (GREAT - 2, GREAT - 1)
        more = (GREAT - 1, GREAT)
        self.check(less, more, True)
        self.check(more, less, False)
        self.check((-GREAT + 1, GREAT), (-GREAT + 2, GREAT - 1), True)

    def test_small_times_all_ways(self):
        for one in TIMES:
            for other in TIMES:
                self.check(one, other, Fraction(*one) < Fraction(*other))


class AddedTest(unittest.TestCase):
    def check(self, one, other, told):
        time = added(one, other)
        self.assertEqual(time, told)
        check_whole_numbers(self, time, 2)

    def test_ordinary(self):
        self.check((1, 2), (1, 3), (5, 6))
        self.check((1, 6), (1, 3), (1, 2))
        self.check((1, 2), (1, 2), (1, 1))
        self.check((2, 1), (3, 1), (5, 1))

    def test_nought(self):
        self.check((0, 1), (0, 1), (0, 1))
        self.check((3, 2), (0, 1), (3, 2))
        self.check((0, 1), (-3, 2), (-3, 2))

    def test_sign_turned_comes_to_nought(self):
        for top, bottom in ((1, 1), (3, 2), (GREAT, GREAT - 1)):
            self.check((top, bottom), (-top, bottom), (0, 1))
            self.check((-top, bottom), (top, bottom), (0, 1))

    def test_great_numbers_take_as_many_figures_as_they_need(self):
        self.check((GREAT, 1), (1, GREAT), (GREAT * GREAT + 1, GREAT))
        self.check((1, GREAT), (1, GREAT - 1), (2 * GREAT - 1, GREAT * (GREAT - 1)))
        self.check((-GREAT, 1), (-GREAT, 1), (-2 * GREAT, 1))

    def test_small_times_all_ways(self):
        for one in TIMES:
            for other in TIMES:
                whole = Fraction(*one) + Fraction(*other)
                self.check(one, other, (whole.numerator, whole.denominator))


class TimeBetweenTest(unittest.TestCase):
    def test_small_times_all_ways(self):
        for one in TIMES:
            for other in TIMES:
                told = time_between(one, other)
                self.assertEqual(added(one, told), other)
                check_whole_numbers(self, told, 2)


class SpotTest(unittest.TestCase):
    def check(self, P, heading, t, told):
        point = spot_at(P, heading, t)
        self.assertEqual(point, told)
        check_whole_numbers(self, point, 3)

    def test_ordinary(self):
        self.check((0, 0, 1), (1, 2), (3, 1), (3, 6, 1))
        self.check((1, 1, 1), (-1, 2), (3, 2), (-1, 8, 2))
        self.check((1, 2, 3), (1, 0), (1, 6), (3, 4, 6))
        self.check((5, 7, 2), (3, -2), (5, 3), (45, 1, 6))

    def test_told_without_a_divisor(self):
        self.check((1, 1, 2), (1, 1), (1, 2), (1, 1, 1))
        self.check((1, 3, 4), (1, -1), (3, 4), (1, 0, 1))

    def test_along_each_line_either_way(self):
        for a, b in ((1, 0), (1, 1), (0, 1), (-1, 1), (-1, 0), (-1, -1), (0, -1), (1, -1)):
            self.check((2, -3, 1), (a, b), (4, 1), (2 + 4 * a, -3 + 4 * b, 1))

    def test_time_of_nought(self):
        for P in ((0, 0, 1), (3, -4, 5), (GREAT, -GREAT, 2)):
            self.check(P, (2, -3), (0, 1), P)

    def test_time_below_nought(self):
        self.check((0, 0, 1), (1, 2), (-3, 1), (-3, -6, 1))
        self.check((1, 2, 3), (1, 0), (-1, 3), (0, 2, 3))

    def test_back_again(self):
        for t in TIMES:
            there = spot_at((1, -2, 3), (5, -3), t)
            self.check(there, (5, -3), (-t[0], t[1]), (1, -2, 3))
            self.check(there, (-5, 3), t, (1, -2, 3))

    def test_great_numbers(self):
        self.check((GREAT, -GREAT, 1), (1, -1), (GREAT, 1), (2 * GREAT, -2 * GREAT, 1))
        self.check((0, 0, 1), (GREAT, GREAT - 1), (GREAT, 1), (GREAT ** 2, GREAT * (GREAT - 1), 1))
        self.check(
            (1, 0, GREAT), (1, -1), (1, GREAT - 1),
            (2 * GREAT - 1, -GREAT, GREAT * (GREAT - 1)),
        )

    def test_small_numbers_all_ways(self):
        for x, y, w in ((0, 0, 1), (1, 2, 3), (-5, 1, 2), (3, 4, 6)):
            for heading in ((1, 0), (0, -1), (2, 3), (-3, 5)):
                for t in TIMES:
                    self.check_place(x, y, w, heading, t)

    def check_place(self, x, y, w, heading, t):
        point = spot_at((x, y, w), heading, t)
        self.assertGreaterEqual(point[2], 1)
        self.assertEqual(gcd(*point), 1)
        self.assertEqual(Fraction(point[0], point[2]), Fraction(x, w) + heading[0] * Fraction(*t))
        self.assertEqual(Fraction(point[1], point[2]), Fraction(y, w) + heading[1] * Fraction(*t))


if __name__ == "__main__":
    unittest.main()
