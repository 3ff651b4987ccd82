"""Points 2, 28, 29 and 30 of the document, as bouncewise/boxes.py keeps them."""

import unittest
from fractions import Fraction
from itertools import product
from math import gcd

from bouncewise.boxes import box_at, box_corner, box_round
from bouncewise.errors import OutOfBox
from bouncewise.flights import flown
from bouncewise.rounds import round_of
from checks import GREAT, box_of, check_arguments, check_refused, check_whole_numbers, place, point_at, told_of

P = (1, 1, 1)

# The greatest number of sixty figures.
SIXTY = 10 ** 60 - 1

SIZES = ((1, 1), (1, 3), (2, 2), (4, 3), (6, 4), (5, 7))
HEADINGS = (
    (1, 0), (-1, 0), (0, 1), (0, -1), (1, 1), (-1, 1), (1, -1), (-1, -1), (2, 1), (-1, 3), (-3, -2), (4, -3), (5, 6),
)
INSIDE = (Fraction(1, 2), Fraction(1, 3), Fraction(4, 5))


# Begins strictly inside: at shares of the sides, and at whole points.
def begins(wide, high):
    shares = [point_at(right * wide, up * high) for right, up in product(INSIDE, repeat=2)]
    return shares + [(x, y, 1) for x in range(1, wide) for y in range(1, high)][::3]


def all_flights():
    for wide, high in SIZES:
        for begin, heading in product(begins(wide, high), HEADINGS):
            yield wide, high, begin, heading


def time_to_side(x, speed, side):
    if speed == 0:
        return None
    return ((side if speed > 0 else 0) - x) / speed


# Mirror by mirror: where it stands at time T, the times of its corners and the number of its hits, up to then.
def reckoned(wide, high, begin, heading, T):
    (x, y), (a, b), now, corners, hits = place(begin), heading, Fraction(0), [], 0
    while True:
        across, up = time_to_side(x, a, wide), time_to_side(y, b, high)
        step = min(t for t in (across, up) if t is not None)
        if now + step > T:
            return (point_at(x + a * (T - now), y + b * (T - now)), (a, b)), corners, hits
        x, y, now = x + a * step, y + b * step, now + step
        corners += [now] if across == up else []
        hits += 2 if across == up else 1
        a = -a if across == step else a
        b = -b if up == step else b


def share(wide, high, heading):
    return gcd(wide * heading[1], high * heading[0])


class InterfaceTest(unittest.TestCase):
    def test_arguments(self):
        check_arguments(self, box_at, "wide", "high", "P", "heading", "t")
        check_arguments(self, box_corner, "wide", "high", "P", "heading")
        check_arguments(self, box_round, "wide", "high", "P", "heading")

    def test_arguments_by_name(self):
        self.assertEqual(box_at(wide=4, high=3, P=P, heading=(1, 1), t=(2, 1)), ((3, 3, 1), (1, -1)))
        self.assertEqual(box_corner(wide=4, high=3, P=P, heading=(3, 2)), (1, 1))
        self.assertEqual(box_round(wide=4, high=3, P=P, heading=(2, 1)), (12, 10))


class OutOfBoxTest(unittest.TestCase):
    def check(self, wide, high, point):
        for heading in ((1, 0), (0, -1), (1, 1), (-2, 3)):
            check_refused(self, OutOfBox, box_at, wide, high, point, heading, (0, 1))
            check_refused(self, OutOfBox, box_at, wide, high, point, heading, (7, 2))
            check_refused(self, OutOfBox, box_corner, wide, high, point, heading)
            check_refused(self, OutOfBox, box_round, wide, high, point, heading)

    def check_inside(self, wide, high, point):
        self.assertEqual(box_at(wide, high, point, (1, 0), (0, 1)), (point, (1, 0)))
        self.assertIsNone(box_corner(wide, high, point, (1, 0)))
        self.assertEqual(box_round(wide, high, point, (1, 0)), (2 * wide, 2))

    def test_on_a_side(self):
        for point in ((0, 1, 1), (4, 1, 1), (1, 0, 1), (1, 3, 1), (0, 5, 2), (7, 0, 2), (8, 5, 2), (7, 6, 2)):
            self.check(4, 3, point)

    def test_at_a_corner(self):
        for point in ((0, 0, 1), (4, 0, 1), (0, 3, 1), (4, 3, 1)):
            self.check(4, 3, point)

    def test_outside(self):
        for point in ((-1, 1, 1), (5, 1, 1), (1, -1, 1), (1, 4, 1), (-1, -1, 1), (9, 5, 2), (7, 7, 2), (-1, 2, 3)):
            self.check(4, 3, point)

    def test_just_outside_and_just_inside(self):
        self.check(4, 3, (4 * GREAT + 1, GREAT, GREAT))
        self.check(4, 3, (GREAT, 3 * GREAT + 1, GREAT))
        self.check(4, 3, (-1, GREAT, GREAT))
        self.check(4, 3, (GREAT, -1, GREAT))
        self.check_inside(4, 3, (4 * GREAT - 1, GREAT, GREAT))
        self.check_inside(4, 3, (GREAT, 3 * GREAT - 1, GREAT))
        self.check_inside(4, 3, (1, GREAT, GREAT))
        self.check_inside(4, 3, (GREAT, 1, GREAT))

    def test_a_side_of_nought_or_below(self):
        for side in (0, -1, -4, -SIXTY):
            for point in ((0, 0, 1), (1, 1, 1), (-1, 1, 1), (1, -1, 1), (-1, -1, 1), (-1, -1, 2), (0, 1, 1), (1, 0, 1)):
                self.check(side, 3, point)
                self.check(4, side, point)
                self.check(side, side, point)

    def test_the_least_box(self):
        self.check_inside(1, 1, (1, 1, 2))
        self.check(1, 1, (1, 1, 1))
        self.check(1, 2, (1, 1, 1))

    def test_great_sides(self):
        self.check(SIXTY, SIXTY, (SIXTY, 1, 1))
        self.check(SIXTY, SIXTY, (1, SIXTY, 1))
        self.check(SIXTY - 1, SIXTY, (SIXTY, 1, 1))
        self.check_inside(SIXTY, SIXTY, (SIXTY - 1, 1, 1))
        self.check_inside(SIXTY, SIXTY, (1, SIXTY - 1, 1))


class StandingTest(unittest.TestCase):
    def check(self, wide, high, begin, heading, t, point, ahead):
        told = box_at(wide, high, begin, heading, t)
        self.assertEqual(told, (point, ahead))
        self.assertIs(type(told), tuple)
        check_whole_numbers(self, told[0], 3)
        check_whole_numbers(self, told[1], 2)


class AtTest(StandingTest):
    def test_at_time_nought(self):
        for wide, high, begin, heading in all_flights():
            self.check(wide, high, begin, heading, (0, 1), begin, heading)

    def test_between_mirrors(self):
        self.check(4, 3, P, (1, 1), (1, 1), (2, 2, 1), (1, 1))
        self.check(4, 3, P, (2, 1), (7, 4), (14, 11, 4), (-2, 1))
        self.check(4, 3, P, (2, 1), (3, 1), (1, 2, 1), (-2, -1))
        self.check(4, 3, P, (2, 1), (4, 1), (1, 1, 1), (2, -1))
        self.check(4, 3, P, (-2, -1), (3, 4), (2, 1, 4), (2, -1))

    def test_at_each_mirror_it_stands_behind_the_hit(self):
        self.check(4, 3, P, (1, 0), (3, 1), (4, 1, 1), (-1, 0))
        self.check(4, 3, P, (-1, 0), (1, 1), (0, 1, 1), (1, 0))
        self.check(4, 3, P, (0, 1), (2, 1), (1, 3, 1), (0, -1))
        self.check(4, 3, P, (0, -1), (1, 1), (1, 0, 1), (0, 1))
        self.check(4, 3, P, (2, 1), (3, 2), (8, 5, 2), (-2, 1))
        self.check(4, 3, P, (2, 1), (2, 1), (3, 3, 1), (-2, -1))
        self.check(4, 3, P, (2, 1), (7, 2), (0, 3, 2), (2, -1))
        self.check(4, 3, P, (2, 1), (5, 1), (3, 0, 1), (2, 1))

    def test_at_each_mirror_again(self):
        for count in range(1, 9):
            self.check(4, 3, P, (1, 0), (3 + 8 * count, 1), (4, 1, 1), (-1, 0))
            self.check(4, 3, P, (1, 0), (7 + 8 * count, 1), (0, 1, 1), (1, 0))
            self.check(4, 3, P, (-1, 0), (1 + 8 * count, 1), (0, 1, 1), (1, 0))
            self.check(4, 3, P, (-1, 0), (5 + 8 * count, 1), (4, 1, 1), (-1, 0))
            self.check(4, 3, P, (0, 1), (2 + 6 * count, 1), (1, 3, 1), (0, -1))
            self.check(4, 3, P, (0, -1), (1 + 6 * count, 1), (1, 0, 1), (0, 1))

    def test_at_each_corner_it_has_the_opposite_heading(self):
        self.check(4, 3, P, (3, 2), (1, 1), (4, 3, 1), (-3, -2))
        self.check(4, 3, P, (-1, -1), (1, 1), (0, 0, 1), (1, 1))
        self.check(4, 3, P, (3, -1), (1, 1), (4, 0, 1), (-3, 1))
        self.check(4, 3, P, (-1, 2), (1, 1), (0, 3, 1), (1, -2))
        self.check(4, 3, P, (1, 1), (11, 1), (4, 0, 1), (-1, 1))

    def test_behind_a_corner_it_flies_back(self):
        self.check(4, 3, P, (3, 2), (2, 1), (1, 1, 1), (-3, -2))
        self.check(4, 3, P, (-1, -1), (5, 2), (3, 3, 2), (1, 1))
        for t in range(1, 40):
            there, back = box_at(4, 3, P, (1, 1), (33 - t, 3)), box_at(4, 3, P, (1, 1), (33 + t, 3))
            self.assertEqual(there[0], back[0])
            self.assertTrue(t % 3 == 0 or there[1] == (-back[1][0], -back[1][1]))

    def test_along_one_side(self):
        for t, x, a in ((0, 1, 1), (2, 3, 1), (3, 4, -1), (6, 1, -1), (7, 0, 1), (8, 1, 1), (800, 1, 1)):
            self.check(4, 3, P, (1, 0), (t, 1), (x, 1, 1), (a, 0))
        for t, y, b in ((0, 1, -1), (1, 0, 1), (4, 3, -1), (6, 1, -1), (601, 0, 1)):
            self.check(4, 3, P, (0, -1), (t, 1), (1, y, 1), (0, b))

    def test_told_without_a_divisor(self):
        self.check(4, 3, (1, 1, 2), (1, 1), (1, 2), (1, 1, 1), (1, 1))
        self.check(4, 3, (3, 1, 2), (1, -1), (5, 2), (4, 2, 1), (-1, 1))
        self.check(4, 3, (1, 2, 3), (1, -1), (1, 6), (1, 1, 2), (1, -1))

    def test_many_times_by_mirrors(self):
        for wide, high, begin, heading in all_flights():
            for t in (Fraction(1, 2), Fraction(4, 3), Fraction(3), Fraction(29, 5), Fraction(12)):
                self.check(wide, high, begin, heading, told_of(t), *reckoned(wide, high, begin, heading, t)[0])

    def test_as_flights_in_a_room_of_mirrors(self):
        for wide, high in SIZES:
            for begin, heading in product(begins(wide, high)[:4], HEADINGS):
                for number, time, point, ahead in flown(box_of(wide, high), begin, heading, 9)[0]:
                    self.check(wide, high, begin, heading, time, point, ahead)


class GreatTest(StandingTest):
    # All lengths and times so many times as great.
    def check_scaled(self, scale, wide, high, begin, heading, t):
        point, ahead = box_at(wide, high, begin, heading, t)
        (x, y), right = place(point), point_at(*[part * scale for part in place(begin)])
        self.check(wide * scale, high * scale, right, heading, told_of(Fraction(*t) * scale),
                   point_at(x * scale, y * scale), ahead)

    def test_sides_of_sixty_figures(self):
        for scale in (2, 12, 10 ** 59 - 1, SIXTY // 7):
            for begin, heading in product(begins(4, 3), HEADINGS):
                for t in ((1, 2), (3, 1), (22, 7), (97, 1)):
                    self.check_scaled(scale, 4, 3, begin, heading, t)

    def test_very_late(self):
        for wide, high, begin, heading in all_flights():
            around = 2 * wide * high // share(wide, high, heading)
            for t in ((0, 1), (1, 3), (7, 2)):
                late = told_of(Fraction(*t) + around * (10 ** 110 + 7))
                self.check(wide, high, begin, heading, late, *box_at(wide, high, begin, heading, t))

    def test_numbers_and_times_of_many_figures(self):
        begin = (GREAT // 3, GREAT // 7, GREAT - 1)
        begin = tuple(number // gcd(*begin) for number in begin)
        for heading in ((GREAT, GREAT - 1), (-GREAT, 2), (1, -GREAT), (GREAT, 1)):
            for t in ((GREAT, 1), (GREAT, 7 * (GREAT // 9) + 1), (1, GREAT)):
                t = told_of(Fraction(*t))
                self.check(SIXTY, SIXTY - 2, begin, heading, t, *self.folded(SIXTY, SIXTY - 2, begin, heading, t))

    # None of these times is one of a hit.
    def folded(self, wide, high, begin, heading, t):
        numbers, ahead = [], []
        for number, speed, side in zip(place(begin), heading, (wide, high), strict=True):
            whole, rest = divmod(number + speed * Fraction(*t), side)
            assert rest != 0
            numbers.append(rest if whole % 2 == 0 else side - rest)
            ahead.append(speed if whole % 2 == 0 else -speed)
        return point_at(*numbers), tuple(ahead)


class CornerTest(unittest.TestCase):
    def check(self, wide, high, begin, heading, told):
        time = box_corner(wide, high, begin, heading)
        self.assertEqual(time, told)
        if time is not None:
            check_whole_numbers(self, time, 2)

    def test_straight_ahead(self):
        self.check(4, 3, P, (3, 2), (1, 1))
        self.check(4, 3, P, (-1, -1), (1, 1))
        self.check(4, 3, P, (3, -1), (1, 1))
        self.check(4, 3, P, (-1, 2), (1, 1))
        self.check(4, 3, (5, 4, 2), (3, 2), (1, 2))
        self.check(4, 3, (1, 1, 3), (-1, -1), (1, 3))

    def test_behind_some_hits(self):
        self.check(4, 3, P, (1, 1), (11, 1))
        self.check(4, 3, (5, 4, 2), (-3, -2), (23, 2))
        self.check(1, 1, (1, 1, 2), (1, 1201), (1, 2))

    def test_never(self):
        self.check(4, 3, P, (2, 1), None)
        self.check(4, 3, (1, 2, 2), (1, 1), None)
        self.check(4, 4, (1, 2, 1), (1, 1), None)
        self.check(4, 4, (1, 2, 1), (-1, 1), None)

    def test_level_and_upright_never(self):
        for wide, high in SIZES:
            for begin in begins(wide, high):
                for heading in ((1, 0), (-1, 0), (0, 1), (0, -1)):
                    self.check(wide, high, begin, heading, None)

    def test_the_first_time_by_mirrors(self):
        told = []
        for wide, high, begin, heading in all_flights():
            apart = Fraction(wide * high, share(wide, high, heading))
            corners = reckoned(wide, high, begin, heading, 3 * apart)[1]
            self.check(wide, high, begin, heading, told_of(min(corners, default=None)))
            if corners:
                self.assertLessEqual(corners[0], apart)
                self.assertEqual([later - sooner for sooner, later in zip(corners, corners[1:])], [apart] * 2)
            told.append(len(corners))
        self.assertEqual(sorted(set(told)), [0, 3])

    def test_just_where_it_is_a_multiple(self):
        for wide, high, begin, heading in all_flights():
            x, y = place(begin)
            aside = (heading[1] * x - heading[0] * y) / share(wide, high, heading)
            self.assertEqual(box_corner(wide, high, begin, heading) is not None, aside.denominator == 1)

    def test_it_stands_at_a_corner_then(self):
        for wide, high, begin, heading in all_flights():
            time = box_corner(wide, high, begin, heading)
            if time is not None:
                self.check_at_corner(wide, high, begin, heading, time)

    def check_at_corner(self, wide, high, begin, heading, time):
        (x, y, w), ahead = box_at(wide, high, begin, heading, time)
        self.assertIn((x, y, w), ((0, 0, 1), (wide, 0, 1), (0, high, 1), (wide, high, 1)))
        self.assertEqual((ahead[0] > 0, ahead[1] > 0), (x == 0, y == 0))

    def test_against_the_outcome_of_flights(self):
        for wide, high in SIZES:
            room = box_of(wide, high)
            for begin, heading in product(begins(wide, high), HEADINGS):
                word, time, hits = round_of(room, begin, heading)
                self.check(wide, high, begin, heading, time if word == "corner" else None)

    def test_great_sides(self):
        half = point_at(Fraction(SIXTY, 2), Fraction(SIXTY, 2))
        self.check(SIXTY, SIXTY, half, (1, 1), told_of(Fraction(SIXTY, 2)))
        self.check(SIXTY, SIXTY, (1, 1, 1), (-1, -1), (1, 1))
        self.check(SIXTY, SIXTY, (1, 1, 1), (1, 1), (SIXTY - 1, 1))
        self.check(SIXTY, SIXTY, (2, 1, 1), (1, 1), None)
        # Unfolded, it comes there SIXTY - 3 widths to the one side and SIXTY - 2 heights up.
        self.check(SIXTY, SIXTY - 1, (1, 1, 1), (-1, 1), (SIXTY * (SIXTY - 3) + 1, 1))

    def test_great_numbers_all_ways(self):
        told = []
        for wide, high in ((SIXTY, SIXTY - 1), (SIXTY, SIXTY // 3), (10 ** 59, 2 ** 190)):
            for heading in ((1, 1), (-1, 1), (3, -7), (SIXTY, SIXTY - 1), (GREAT, GREAT - 1), (-2, GREAT)):
                told.append(self.check_first(wide, high, (wide // 3, high // 7, 1), heading))
        self.assertGreater(told.count(True), 3)
        self.assertIn(False, told)

    def check_first(self, wide, high, begin, heading):
        time = box_corner(wide, high, begin, heading)
        apart = Fraction(wide * high, share(wide, high, heading))
        aside = heading[1] * begin[0] - heading[0] * begin[1]
        self.assertEqual(time is None, aside % share(wide, high, heading) != 0)
        if time is not None:
            self.check_at_corner(wide, high, begin, heading, time)
            self.assertTrue(0 < Fraction(*time) <= apart)
            self.check_at_corner(wide, high, begin, heading, told_of(Fraction(*time) + apart))
        return time is not None


class RoundTest(unittest.TestCase):
    def check(self, wide, high, begin, heading, time, hits):
        told = box_round(wide, high, begin, heading)
        self.assertEqual(told, (time, hits))
        check_whole_numbers(self, told, 2)

    def test_ordinary(self):
        self.check(4, 3, P, (2, 1), 12, 10)
        self.check(4, 3, (1, 2, 2), (1, 1), 24, 14)
        self.check(4, 4, (1, 2, 1), (1, 1), 8, 4)
        self.check(4, 4, (1, 2, 1), (-1, 1), 8, 4)
        self.check(2, 2, (3, 2, 6), (1, -299), 4, 600)

    def test_level_and_upright(self):
        for heading in ((1, 0), (-1, 0)):
            self.check(4, 3, P, heading, 8, 2)
        for heading in ((0, 1), (0, -1)):
            self.check(4, 3, P, heading, 6, 2)

    def test_two_hits_for_each_corner(self):
        self.check(4, 3, P, (1, 1), 24, 14)
        self.check(1, 1, (1, 1, 2), (1, 1), 2, 4)
        self.check(1, 1, (1, 1, 2), (-1, 3), 2, 8)
        self.check(4, 3, P, (3, 2), 24, 34)

    def test_hits_by_mirrors(self):
        for wide, high, begin, heading in all_flights():
            time, hits = box_round(wide, high, begin, heading)
            standing, corners, counted = reckoned(wide, high, begin, heading, Fraction(time))
            self.assertEqual(standing, (begin, heading))
            self.check(wide, high, begin, heading, time, counted)

    def test_it_stands_at_its_begin_first_then(self):
        for wide, high, begin, heading in all_flights():
            time, hits = box_round(wide, high, begin, heading)
            self.assertEqual(box_at(wide, high, begin, heading, (time, 1)), (begin, heading))
            for whole in range(1, time):
                self.assertNotEqual(box_at(wide, high, begin, heading, (whole, 1)), (begin, heading))

    def test_against_what_comes_of_flights(self):
        rounds = 0
        for wide, high in SIZES:
            room = box_of(wide, high)
            for begin, heading in product(begins(wide, high), HEADINGS):
                word, time, hits = round_of(room, begin, heading)
                if word == "round":
                    self.check(wide, high, begin, heading, time[0], hits)
                    rounds += 1
        self.assertGreater(rounds, 300)

    def test_great_sides(self):
        self.check(SIXTY, SIXTY - 1, P, (1, 1), 2 * SIXTY * (SIXTY - 1), 2 * (2 * SIXTY - 1))
        self.check(SIXTY, SIXTY, P, (1, -1), 2 * SIXTY, 4)
        self.check(SIXTY, 1, (1, 1, 2), (1, 0), 2 * SIXTY, 2)
        self.check(SIXTY, 1, (1, 1, 2), (1, SIXTY), 2 * SIXTY, 2 * (1 + SIXTY * SIXTY))
        self.check(SIXTY, 1, (1, 1, 2), (SIXTY, 1), 2, 4)

    def test_great_headings(self):
        self.check(1, 1, (1, 1, 2), (GREAT, 1 - GREAT), 2, 2 * (2 * GREAT - 1))
        self.check(1, 1, (1, 1, 2), (-1, GREAT), 2, 2 * (1 + GREAT))

    def test_great_ones_stand_at_their_begin_then(self):
        for wide, high in ((SIXTY, SIXTY - 1), (SIXTY, SIXTY // 3), (10 ** 59, 2 ** 190)):
            for heading in ((1, 1), (-1, 0), (3, -7), (SIXTY, SIXTY - 1), (GREAT, GREAT - 1), (-2, GREAT)):
                begin = (wide // 3, high // 7, 1)
                time, hits = box_round(wide, high, begin, heading)
                g = share(wide, high, heading)
                self.check(wide, high, begin, heading, 2 * wide * high // g,
                           2 * (high * abs(heading[0]) + wide * abs(heading[1])) // g)
                self.assertEqual(box_at(wide, high, begin, heading, (time, 1)), (begin, heading))


class LeftAsItWasTest(unittest.TestCase):
    def test_asked_again_it_is_answered_alike(self):
        for wide, high, begin, heading in all_flights():
            self.assertEqual(box_at(wide, high, begin, heading, (7, 3)), box_at(wide, high, begin, heading, (7, 3)))
            self.assertEqual(box_corner(wide, high, begin, heading), box_corner(wide, high, begin, heading))


if __name__ == "__main__":
    unittest.main()
