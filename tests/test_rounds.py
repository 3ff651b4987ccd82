"""Points 2, 25, 26 and 27 of the document, as bouncewise/rounds.py keeps them."""

import unittest
from fractions import Fraction
from itertools import product

from bouncewise.errors import TooLong
from bouncewise.flights import Flight, flown
from bouncewise.headings import opposite
from bouncewise.meets import first_met
from bouncewise.points import spot_at
from bouncewise.rooms import Room
from bouncewise.rounds import latest, round_of
from bouncewise.walls import Door, Glass, Hole, Mirror
from checks import (
    BOX, ENDS, GREAT, ROOMS, box_of, check_arguments, check_on_wall, check_refused, check_whole_numbers,
    flight_reckoned, place, point_at, standing_at, told_of,
)

P = (1, 1, 1)
HEADINGS = ((1, 0), (-1, 0), (0, 1), (0, -1), (1, 1), (-1, 1), (-1, -1), (2, 1), (-1, 3), (-3, -2))

FLOOR = Mirror((0, 0), (4, 0))
UNIT = box_of(1, 1)
HALF = (1, 1, 2)

# Of mirrors and glasses alone: closed with glass in it, a closed one of slanting walls, one with a way out, and open.
WITHOUT_DOORS = (
    BOX,
    Room(box_of(4, 4).walls() + [Glass((2, 1), (2, 3)), Glass((1, 2), (3, 2)), Mirror((0, 3), (1, 4))]),
    Room([Mirror((0, 0), (5, 0)), Mirror((0, 0), (5, 5)), Mirror((5, 0), (5, 5)), Glass((3, 0), (5, 2))]),
    Room([Mirror((0, 3), (3, 6)), Mirror((3, 6), (6, 3)), Mirror((3, 0), (6, 3)), Mirror((3, 0), (0, 3)),
          Glass((1, 3), (5, 3)), Mirror((3, 2), (3, 1))]),
    Room([Mirror((0, 0), (6, 0)), Mirror((0, 4), (6, 4)), Mirror((6, 0), (6, 3)), Glass((2, 0), (2, 4))]),
    Room([Mirror((0, 0), (5, 0)), Glass((1, 2), (4, 2)), Mirror((0, 4), (4, 4))]),
)

# Closed rooms with doors of several numbers.
WITH_DOORS = (
    Room(BOX.walls() + [Door((2, 0), (2, 3))]),
    Room(BOX.walls() + [Door((1, 0), (1, 3), 3), Door((3, 0), (3, 3), 2)]),
    Room(box_of(4, 4).walls() + [Door((1, 1), (3, 3), 2), Door((0, 2), (1, 2), 3), Glass((2, 0), (3, 1))]),
    Room([Door((0, 0), (4, 0), 4), Mirror((0, 0), (0, 4)), Mirror((0, 4), (4, 4)), Mirror((4, 0), (4, 4)),
          Mirror((0, -2), (4, -2)), Mirror((0, -2), (0, 0)), Mirror((4, -2), (4, 0)), Door((1, 3), (2, 2), 1)]),
)


def corridor(*between):
    return Room([Mirror((0, 0), (0, 2)), Mirror((6, 0), (6, 2))] + list(between))


def points_in(fractions, room):
    points = [point_at(x, y) for x, y in product(fractions, repeat=2)]
    return [point for point in points if not room.on(point)]


# The time from a place, by who flies straight on from it, to the begin; None where it does not lie ahead.
def time_to_begin(begin, heading, x, y):
    right, up = place(begin)[0] - x, place(begin)[1] - y
    if right * heading[1] != up * heading[0]:
        return None
    t = right / heading[0] if heading[0] else up / heading[1]
    return t if t > 0 else None


# All times up to the last of these hits at which the flight stands at its begin, each with its heading and with how
# many hits are ahead of it.
def passings(begin, heading, hits):
    told, (x, y), ahead, since = [], place(begin), heading, Fraction(0)
    for count, hit in enumerate(hits):
        t = time_to_begin(begin, ahead, x, y)
        if t is not None and since + t < Fraction(*hit[1]):
            told.append((since + t, ahead, count))
        (x, y), ahead, since = place(hit[2]), hit[3], Fraction(*hit[1])
    return told


def doors_are_as_at_first(walls, hits):
    numbers = [hit[0] for hit in hits]
    return all(numbers.count(number) % wall.every() == 0 for number, wall in enumerate(walls))


# None where it would be refused with TooLong; most flights are done with after few hits.
def round_reckoned(walls, begin, heading):
    for most in (20, 100, 601):
        hits, outcome = flight_reckoned(walls, begin, heading, most)
        for t, ahead, count in passings(begin, heading, hits):
            if ahead == heading and doors_are_as_at_first(walls, hits[:count]):
                return "round", told_of(t), count
        if outcome is not None and len(hits) < 601:
            return outcome[0], None if outcome == ("away",) else outcome[-2], len(hits)
    return None


class InterfaceTest(unittest.TestCase):
    def test_arguments(self):
        check_arguments(self, latest, "room")
        check_arguments(self, round_of, "room", "P", "heading")

    def test_arguments_by_name(self):
        self.assertEqual(latest(room=BOX), 160)
        self.assertEqual(round_of(room=BOX, P=P, heading=(1, 0)), ("round", (8, 1), 2))


class LatestTest(unittest.TestCase):
    def check(self, walls, told):
        time = latest(Room(walls))
        self.assertEqual(time, told)
        self.assertIs(type(time), int)

    def test_without_walls(self):
        self.check([], 0)

    def test_without_doors(self):
        self.check(BOX.walls(), 8 * 5 * 4)
        self.check([Mirror((0, 0), (3, 3))], 8 * 4 * 4)
        self.check([Glass((0, 0), (1, 0)), Hole((7, 2), (7, 5))], 8 * 8 * 6)

    def test_of_no_height_or_no_width(self):
        self.check([Mirror((0, 0), (5, 0))], 8 * 6)
        self.check([Glass((2, -3), (2, 4))], 8 * 8)
        self.check([Mirror((0, 7), (5, 7)), Door((6, 7), (9, 7), 3)], 8 * 10 * 3)

    def test_with_one_door(self):
        self.check([Door((0, 0), (4, 0))], 8 * 5 * 2)
        for every in range(1, 10):
            self.check(BOX.walls() + [Door((1, 1), (3, 1), every)], 160 * every)

    def test_with_several_doors(self):
        self.check([Door((0, 0), (4, 0)), Mirror((0, 0), (0, 3)), Door((0, 3), (4, 3))], 160 * 4)
        self.check([Door((0, 0), (4, 0), 4), Door((0, 0), (0, 3), 6), Glass((0, 3), (4, 3))], 160 * 24)
        self.check([Door((0, 0), (4, 0), 3), Door((0, 0), (0, 3), 3), Door((0, 3), (4, 3), 5)], 160 * 45)
        self.check([Door((0, 0), (4, 0), 1), Door((0, 0), (0, 3)), Door((0, 3), (4, 3), 7)], 160 * 14)

    def test_of_forty_doors(self):
        self.check([Door((0, height), (1, height), 9) for height in range(40)], 8 * 2 * 40 * 9 ** 40)

    def test_put_anywhere(self):
        for right, up in product((-996, -5, -2, 0, 1, 996), repeat=2):
            self.check([
                Mirror((right, up), (right + 4, up)), Hole((right, up + 1), (right, up + 3)),
                Door((right + 2, up + 4), (right + 3, up + 3), 3),
            ], 8 * 5 * 5 * 3)

    def test_as_far_out_as_walls_stand(self):
        self.check([Mirror((-1000, -1000), (1000, 1000))], 8 * 2001 * 2001)
        self.check([Mirror((-1000, 1000), (1000, -1000))], 8 * 2001 * 2001)
        self.check([Mirror((-1000, 0), (1000, 0))], 8 * 2001)


class OfTest(unittest.TestCase):
    def check(self, room, begin, heading, word, time, hits):
        told = round_of(room, begin, heading)
        self.assertEqual(told, (word, time, hits))
        self.assertIs(type(told), tuple)
        self.assertIs(type(told[2]), int)
        if word == "away":
            self.assertIsNone(told[1])
        else:
            check_whole_numbers(self, told[1], 2)

    def check_too_long(self, room, begin, heading):
        check_refused(self, TooLong, round_of, room, begin, heading)


class WordsTest(OfTest):
    def test_round(self):
        self.check(BOX, P, (2, 1), "round", (12, 1), 10)
        self.check(BOX, P, (1, 0), "round", (8, 1), 2)
        self.check(BOX, P, (0, -1), "round", (6, 1), 2)
        self.check(box_of(4, 4), (1, 2, 1), (1, 1), "round", (8, 1), 4)

    def test_round_from_a_begin_with_fractions(self):
        self.check(BOX, (1, 2, 3), (-1, 0), "round", (8, 1), 2)
        self.check(BOX, (5, 3, 2), (2, 1), "round", (12, 1), 10)
        self.check(box_of(4, 4), (7, 3, 5), (1, -1), "round", (8, 1), 4)

    def test_round_by_slanting_walls(self):
        diamond = Room([Mirror((0, 3), (3, 6)), Mirror((3, 6), (6, 3)), Mirror((3, 0), (6, 3)), Mirror((3, 0), (0, 3))])
        self.check(diamond, (3, 2, 1), (1, 0), "round", (12, 1), 4)
        self.check(diamond, (3, 2, 1), (1, 1), "round", (6, 1), 2)

    def test_corner(self):
        self.check(BOX, P, (1, 1), "corner", (11, 1), 5)
        self.check(BOX, P, (3, 2), "corner", (1, 1), 0)
        self.check(BOX, (5, 4, 2), (3, 2), "corner", (1, 2), 0)
        self.check(BOX, (5, 4, 2), (-3, -2), "corner", (23, 2), 15)

    def test_corner_at_the_end_of_one_wall_and_where_two_cross(self):
        self.check(Room([Mirror((2, 0), (2, 5))]), (0, 0, 1), (1, 0), "corner", (2, 1), 0)
        self.check(Room([Glass((2, 0), (2, 5))]), (4, -3, 2), (0, 1), "corner", (3, 2), 0)
        self.check(Room([Glass((1, -5), (1, 5)), Glass((2, -1), (4, 1)), Hole((2, 1), (4, -1))]), (0, 0, 1), (1, 0),
                   "corner", (3, 1), 1)

    def test_fell(self):
        room = Room([FLOOR, Hole((0, 3), (4, 3))])
        self.check(room, P, (0, -1), "fell", (4, 1), 1)
        self.check(room, P, (0, 1), "fell", (2, 1), 0)
        self.check(room, (2, 1, 2), (0, 1), "fell", (5, 2), 0)
        self.check(room, (1, 2, 2), (1, -2), "fell", (2, 1), 1)

    def test_away(self):
        self.check(Room([]), P, (2, 3), "away", None, 0)
        self.check(Room([FLOOR]), P, (0, 1), "away", None, 0)
        self.check(Room([FLOOR]), P, (1, -1), "away", None, 1)
        self.check(Room([FLOOR, Glass((0, 1), (4, 1))]), (1, 2, 1), (0, -1), "away", None, 3)

    def test_all_walls_behind_it(self):
        self.check(BOX, (5, 1, 1), (1, 0), "away", None, 0)
        self.check(BOX, (5, 1, 1), (-1, 0), "away", None, 1)


class LeastTimeTest(OfTest):
    def check_passings(self, room, begin, heading, told):
        hits = flown(room, begin, heading, 60)[0]
        self.assertEqual([(told_of(t), ahead) for t, ahead, count in passings(begin, heading, hits)][:len(told)], told)

    def test_between_two_hits_and_ahead_of_the_first_again(self):
        room = corridor(Glass((2, 0), (2, 2)), Glass((4, 0), (4, 2)))
        self.check(room, (3, 1, 1), (1, 0), "round", (12, 1), 6)
        self.check(room, (3, 1, 1), (-1, 0), "round", (12, 1), 6)
        self.check(room, (5, 2, 2), (1, 0), "round", (12, 1), 6)
        self.check(room, (1, 1, 1), (1, 0), "round", (12, 1), 6)
        self.check(room, (11, 1, 2), (1, 0), "round", (12, 1), 6)

    def test_with_the_opposite_heading_first(self):
        self.check_passings(BOX, P, (1, 0), [((6, 1), (-1, 0)), ((8, 1), (1, 0)), ((14, 1), (-1, 0))])
        self.check(BOX, P, (1, 0), "round", (8, 1), 2)

    def test_with_another_heading_first(self):
        begin = (3, 2, 2)
        self.check_passings(BOX, begin, (1, 1), [((16, 1), (1, -1)), ((24, 1), (1, 1))])
        self.check(BOX, begin, (1, 1), "round", (24, 1), 14)

    def test_at_the_place_of_the_first_hit_with_another_heading(self):
        room = Room([Mirror((0, 0), (0, 1)), Mirror((3, 0), (4, 1)), Mirror((3, 3), (4, 3))])
        self.check_passings(room, HALF, (1, 0), [((11, 1), (-1, 0)), ((12, 1), (1, 0))])
        self.check(room, HALF, (1, 0), "round", (12, 1), 4)

    def test_with_a_door_not_yet_as_it_was_and_as_it_was(self):
        self.check_passings(WITH_DOORS[0], P, (1, 0), [
            ((2, 1), (-1, 0)), ((4, 1), (1, 0)), ((14, 1), (-1, 0)), ((16, 1), (1, 0)),
        ])
        self.check(WITH_DOORS[0], P, (1, 0), "round", (16, 1), 8)

    def test_of_a_door_by_its_number(self):
        for every, time, hits in ((1, 8, 4), (2, 16, 8), (3, 24, 12), (4, 32, 16), (9, 72, 36)):
            room = Room(BOX.walls() + [Door((2, 0), (2, 3), every)])
            self.check(room, P, (1, 0), "round", (time, 1), hits)

    def test_of_a_door_that_is_never_hit(self):
        room = Room(BOX.walls() + [Door((1, 2), (2, 2), 7)])
        self.check(room, P, (1, 0), "round", (8, 1), 2)

    def test_each_door_by_itself(self):
        room = corridor(Door((2, 0), (2, 2), 2), Door((4, 0), (4, 2), 3))
        for begin in ((1, 1, 1), (3, 1, 1), (5, 1, 1)):
            told = round_of(room, begin, (1, 0))
            self.assertEqual(told, round_reckoned(room.walls(), begin, (1, 0)))
            self.assertEqual(told[0], "round")
            counts = self.counts_behind(room, begin, told[2])
            self.assertEqual([counts[2] % 2, counts[3] % 3], [0, 0])

    def counts_behind(self, room, begin, hits):
        flight = Flight(room, begin, (1, 0))
        for hit in range(hits):
            flight.step()
        return flight.counts()

    def test_hits_at_other_walls_need_be_no_multiples(self):
        room = Room(BOX.walls() + [Glass((2, 0), (2, 3))])
        self.check(room, P, (1, 0), "round", (8, 1), 4)
        self.check(room, P, (2, 1), "round", (12, 1), 16)


class MostHitsTest(OfTest):
    def test_round(self):
        begin, slanting = (3, 2, 6), box_of(2, 2)
        self.check(slanting, begin, (1, 299), "round", (4, 1), 600)
        self.check_too_long(Room(slanting.walls() + [Glass((1, 0), (1, 1))]), begin, (1, 299))
        self.check_too_long(slanting, begin, (1, 301))

    def test_one_hit_more_is_what_is_too_long(self):
        room = Room(box_of(2, 2).walls() + [Glass((1, 0), (1, 1))])
        self.check(room, (3, 2, 6), (1, 297), "round", (4, 1), 597)
        hits = flown(room, (3, 2, 6), (1, 299), 602)[0]
        self.assertEqual(passings((3, 2, 6), (1, 299), hits)[-1][1:], ((1, 299), 601))

    def test_corner(self):
        self.check(UNIT, HALF, (1, 1201), "corner", (1, 2), 600)
        self.check_too_long(UNIT, HALF, (1, 1203))

    def test_fell(self):
        room = Room(UNIT.walls()[:3] + [Hole((1, 0), (1, 1))])
        self.check(room, HALF, (1, 1200), "fell", (1, 2), 600)
        self.check_too_long(room, HALF, (1, 1202))

    def test_away(self):
        room = Room(UNIT.walls()[:3])
        self.check(room, HALF, (1, 1200), "away", None, 600)
        self.check_too_long(room, HALF, (1, 1202))

    def test_very_many(self):
        for heading in ((1, GREAT), (GREAT, -2), (GREAT, GREAT - 1), (1, 100_000)):
            self.check_too_long(BOX, P, heading)


class OnWallTest(unittest.TestCase):
    def test_on_one_wall_of_each_kind_and_line(self):
        for kind in (Mirror, Glass, Hole, Door):
            for one, two in ENDS.values():
                room = Room([Glass((20, 20), (30, 20)), kind(one, two)])
                check_on_wall(self, 1, round_of, room, (*one, 1), (1, 2))
                check_on_wall(self, 1, round_of, room, (*two, 1), (0, 1))
                between = point_at(Fraction(one[0] + two[0], 2), Fraction(one[1] + two[1], 2))
                check_on_wall(self, 1, round_of, room, between, (-1, 0))

    def test_the_least_number_is_told(self):
        check_on_wall(self, 0, round_of, BOX, (0, 0, 1), (1, 1))
        check_on_wall(self, 1, round_of, BOX, (0, 3, 1), (1, 1))
        check_on_wall(self, 2, round_of, BOX, (4, 3, 1), (1, 1))

    def test_ahead_of_too_long(self):
        check_on_wall(self, 3, round_of, BOX, (4, 1, 1), (1, GREAT))
        check_on_wall(self, 3, round_of, BOX, (4, 1, 1), (-1, GREAT))


class GreatNumbersTest(OfTest):
    def test_begins(self):
        self.check(BOX, (GREAT - 2, GREAT - 1, GREAT), (2, 1), "round", (12, 1), 10)
        self.check(BOX, (1, GREAT, GREAT), (0, 1), "round", (6, 1), 2)

    def test_times(self):
        self.check(BOX, (-GREAT, 0, 1), (1, 0), "corner", (GREAT, 1), 0)
        self.check(BOX, (-GREAT, 1, 1), (1, 0), "away", None, 1)
        self.check(Room([Hole((0, 0), (0, 3))]), (-GREAT, GREAT, GREAT - 1), (1, 0), "fell", (GREAT, GREAT - 1), 0)

    def test_headings(self):
        self.check(BOX, (5, 1, 1), (GREAT, GREAT - 1), "away", None, 0)
        self.check(Room([FLOOR]), P, (1, -GREAT), "away", None, 1)
        self.check(Room([Hole((0, 0), (4, 0))]), P, (1, -GREAT), "fell", (1, GREAT), 0)


class AllTest(unittest.TestCase):
    def check_all(self, room, begins, headings):
        words = []
        for begin, heading in product(begins, headings):
            told = round_reckoned(room.walls(), begin, heading)
            if told is None:
                check_refused(self, TooLong, round_of, room, begin, heading)
            else:
                self.assertEqual(round_of(room, begin, heading), told)
                self.check_round_time(room, told)
                words.append(told[0])
        return words

    def check_round_time(self, room, told):
        if told[0] == "round":
            self.assertEqual(told[1][1], 1)
            self.assertLessEqual(told[1][0], latest(room))

    def test_rooms_of_all_kinds(self):
        words = []
        for room in ROOMS + WITHOUT_DOORS:
            words += self.check_all(room, points_in((Fraction(1, 2), Fraction(5, 3)), room), HEADINGS)
        self.assertEqual(sorted(set(words)), ["away", "corner", "fell", "round"])

    def test_rooms_with_doors(self):
        words = []
        for room in WITH_DOORS:
            words += self.check_all(room, points_in((Fraction(1, 2), Fraction(5, 2)), room), HEADINGS[::2])
        self.assertGreater(words.count("round"), 30)

    def test_the_round_flight_stands_at_its_begin(self):
        for room, begin, heading in product(WITHOUT_DOORS + WITH_DOORS, ((1, 1, 2), (4, 7, 3)), HEADINGS):
            if not room.on(begin):
                word, time, count = round_of(room, begin, heading)
                hits = flown(room, begin, heading, count)[0]
                self.assertEqual(len(hits), count)
                if word == "round":
                    self.assertEqual(standing_at(begin, heading, hits, Fraction(*time)), begin)
                    self.assertEqual(hits[-1][3], heading)

    def test_it_goes_on_as_it_began(self):
        for begin, heading in product(((1, 1, 2), (5, 4, 3)), HEADINGS):
            for room in WITH_DOORS:
                word, time, count = round_of(room, begin, heading)
                if word == "round":
                    hits = flown(room, begin, heading, 2 * count)[0]
                    again = [(hit[0], (hit[1][0] + time[0] * hit[1][1], hit[1][1])) + hit[2:] for hit in hits[:count]]
                    self.assertEqual(hits[count:], again)


class OppositeTest(unittest.TestCase):
    # From halfway between the last of these hits and what is met next, if it is met soon.
    def check_turned_about(self, room, begin, heading, hits):
        point, ahead = hits[-1][2:]
        met = first_met(room, point, ahead)
        half = Fraction(3) if met is None else Fraction(*met[0]) / 2
        past = Fraction(*hits[-1][1]) + half
        spot = spot_at(point, ahead, told_of(half))
        headings = [heading] + [hit[3] for hit in hits[:-1]]
        back = [(hit[0], told_of(past - Fraction(*hit[1])), hit[2], opposite(way)) for hit, way in zip(hits, headings)]
        told = flown(room, spot, opposite(ahead), len(hits))[0]
        self.assertEqual(told, back[::-1])
        self.check_comes_through(room, begin, told[-1], Fraction(*hits[0][1]))

    def check_comes_through(self, room, begin, last, t):
        self.assertEqual(spot_at(last[2], last[3], told_of(t)), begin)
        met = first_met(room, last[2], last[3])
        self.assertTrue(met is None or Fraction(*met[0]) > t)

    def test_the_earlier_hits_the_other_way_about(self):
        turned = 0
        for room in WITHOUT_DOORS:
            for begin in points_in((Fraction(1, 2), Fraction(7, 3)), room):
                for heading in HEADINGS:
                    hits = flown(room, begin, heading, 9)[0]
                    for count in range(1, len(hits)):
                        self.check_turned_about(room, begin, heading, hits[:count])
                        turned += 1
        self.assertGreater(turned, 500)

    def test_before_the_first_hit_it_comes_through_its_begin(self):
        for room in WITHOUT_DOORS:
            for begin in points_in((Fraction(1, 2), Fraction(7, 3)), room):
                met = first_met(room, begin, (2, 1))
                if met is not None:
                    half = told_of(Fraction(*met[0]) / 2)
                    spot = spot_at(begin, (2, 1), half)
                    back = first_met(room, spot, (-2, -1))
                    self.assertTrue(back is None or Fraction(*back[0]) > Fraction(*half))

    def test_the_opposite_of_a_round_one_is_round_too(self):
        rounds = 0
        for room in WITHOUT_DOORS:
            for begin in points_in((Fraction(1, 2), Fraction(7, 3), Fraction(13, 5)), room):
                for heading in HEADINGS:
                    told = round_of(room, begin, heading)
                    if told[0] == "round":
                        self.assertEqual(round_of(room, begin, opposite(heading)), told)
                        rounds += 1
        self.assertGreater(rounds, 100)


class LeftAsItWasTest(unittest.TestCase):
    def test_asked_again_it_is_answered_alike(self):
        for room in ROOMS + WITH_DOORS:
            before = [(wall.word(), wall.one, wall.two, wall.every()) for wall in room.walls()]
            told = round_of(room, (1, 2, 3), (2, 1))
            time = latest(room)
            self.assertEqual(round_of(room, (1, 2, 3), (2, 1)), told)
            self.assertEqual(latest(room), time)
            self.assertEqual([(wall.word(), wall.one, wall.two, wall.every()) for wall in room.walls()], before)

    def test_flights_in_the_room_go_on_by_their_own_counts(self):
        room = WITH_DOORS[0]
        flight = Flight(room, P, (1, 0))
        first = flight.step()
        round_of(room, P, (1, 0))
        self.assertEqual([first] + [flight.step() for step in range(5)], flown(room, P, (1, 0), 6)[0])


if __name__ == "__main__":
    unittest.main()
