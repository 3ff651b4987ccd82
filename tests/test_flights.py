"""Points 2, 3, 17, 18 and 19 of the document, as bouncewise/flights.py keeps them."""

import unittest
from fractions import Fraction
from itertools import product

from bouncewise.errors import Over
from bouncewise.flights import Flight, flown
from bouncewise.rooms import Room
from bouncewise.walls import Door, Glass, Hole, Mirror
from checks import (
    BEHIND_FIVE, BOX, ENDS, FIVE, GREAT, ROOMS, box_of, check_arguments, check_hits, check_on_wall, check_refused,
    check_whole_numbers, flight_reckoned, lies_on, place, point_at, told_of,
)

KINDS = (Mirror, Glass, Hole, Door)
HEADINGS = ((1, 0), (0, -1), (1, 1), (-1, 1), (2, 1), (-1, 3), (-3, -2), (5, -7))

# From (1, 1) with heading (2, 1), in BOX.
SLANTED = [
    (3, (3, 2), (8, 5, 2), (-2, 1)),
    (2, (2, 1), (3, 3, 1), (-2, -1)),
    (1, (7, 2), (0, 3, 2), (2, -1)),
    (0, (5, 1), (3, 0, 1), (2, 1)),
    (3, (11, 2), (8, 1, 2), (-2, 1)),
    (1, (15, 2), (0, 5, 2), (2, 1)),
    (2, (8, 1), (1, 3, 1), (2, -1)),
]


def folded(number, side):
    rest = number % (2 * side)
    return rest if rest <= side else 2 * side - rest


# In a box of mirrors numbered as in BOX each number goes by itself: told are so many hits, or those up to a corner.
def hits_in_box(wide, high, P, heading, most):
    x, y = place(P)
    a, b = heading
    across = turned_times(x, a, wide, most)
    up = turned_times(y, b, high, most)
    hits = []
    for t in sorted(across | up)[:most]:
        if t in across and t in up:
            break
        a = -a if t in across else a
        b = -b if t in up else b
        point = (folded(x + heading[0] * t, wide), folded(y + heading[1] * t, high))
        number = (3 if point[0] else 1) if t in across else (2 if point[1] else 0)
        hits.append((number, told_of(t), point_at(*point), (a, b)))
    return hits


def turned_times(begin, speed, side, most):
    if speed > 0:
        return {(k * side - begin) / speed for k in range(1, most + 1)}
    return set() if speed == 0 else {(-k * side - begin) / speed for k in range(most)}


def stepped(flight, times):
    return [flight.step() for step in range(times)]


class InterfaceTest(unittest.TestCase):
    def test_arguments(self):
        check_arguments(self, Flight, "room", "P", "heading")
        check_arguments(self, Flight.step, "self")
        check_arguments(self, Flight.outcome, "self")
        check_arguments(self, Flight.standing, "self")
        check_arguments(self, Flight.counts, "self")
        check_arguments(self, flown, "room", "P", "heading", most=12)

    def test_arguments_by_name(self):
        self.assertEqual(Flight(room=BOX, P=(1, 1, 1), heading=(1, 1)).step(), FIVE[0])
        self.assertEqual(flown(room=BOX, P=(1, 1, 1), heading=(1, 1), most=2), (FIVE[:2], None))


class BeginTest(unittest.TestCase):
    def check(self, number, room, P):
        for heading in HEADINGS:
            check_on_wall(self, number, Flight, room, P, heading)
            check_on_wall(self, number, flown, room, P, heading)
            check_on_wall(self, number, flown, room, P, heading, 0)
            check_on_wall(self, number, flown, room, P, heading, 4000)

    def test_on_one_wall_of_each_kind_and_line(self):
        for kind in KINDS:
            for one, two in ENDS.values():
                room = Room([Glass((20, 20), (30, 20)), kind(one, two)])
                self.check(1, room, point_at(Fraction(one[0] + two[0], 2), Fraction(one[1] + two[1], 2)))
                self.check(1, room, point_at(Fraction(2 * one[0] + two[0], 3), Fraction(2 * one[1] + two[1], 3)))

    def test_at_an_end(self):
        for kind in KINDS:
            for one, two in ENDS.values():
                room = Room([Glass((20, 20), (30, 20)), Hole((20, 25), (30, 25)), kind(one, two)])
                self.check(2, room, (*one, 1))
                self.check(2, room, (*two, 1))

    def test_on_several_walls(self):
        crossing = [Mirror((0, 0), (4, 4)), Hole((0, 4), (4, 0)), Door((2, 0), (2, 4))]
        for turned in range(3):
            walls = crossing[turned:] + crossing[:turned]
            self.check(0, Room(walls), (2, 2, 1))
            self.check(1, Room([Glass((9, 9), (9, 12))] + walls), (2, 2, 1))
            self.check(0, Room([Glass((2, 2), (4, 2))] + walls), (2, 2, 1))

    def test_on_a_later_wall_than_another_point(self):
        self.check(0, BOX, (0, 0, 1))
        self.check(1, BOX, (0, 3, 1))
        self.check(2, BOX, (4, 3, 1))
        self.check(3, BOX, (4, 1, 1))
        self.check(1, BOX, (0, 1, GREAT))

    def test_just_off_a_wall_it_begins(self):
        room = Room([Mirror((0, 0), (4, 0))])
        for P in ((GREAT, 1, GREAT), (GREAT, -1, GREAT), (-1, 0, GREAT), (5, 0, 1), (-1, 0, 1)):
            flight = Flight(room, P, (0, 1))
            self.assertEqual(flight.standing(), (P, (0, 1)))
            self.assertIsNone(flight.outcome())

    def test_without_walls_it_begins_anywhere(self):
        for P in ((0, 0, 1), (GREAT, -GREAT, 1), (1, 2, GREAT)):
            self.assertEqual(flown(Room([]), P, (1, 2)), ([], ("away",)))

    def test_every_small_point(self):
        for room in ROOMS:
            for x, y in product(range(-6, 20), range(-3, 20)):
                P = point_at(Fraction(x, 3), Fraction(y, 3))
                numbers = [number for number, wall in enumerate(room.walls()) if lies_on(wall, *place(P))]
                if numbers:
                    check_on_wall(self, numbers[0], Flight, room, P, (2, 3))
                else:
                    self.assertEqual(Flight(room, P, (2, 3)).standing(), (P, (2, 3)))


class MeetingTest(unittest.TestCase):
    # The flight has no hit, and this outcome.
    def check_ends(self, walls, P, heading, outcome):
        flight = Flight(Room(walls), P, heading)
        self.assertIsNone(flight.step())
        self.assertEqual(flight.outcome(), outcome)
        self.assertIs(type(flight.outcome()), tuple)
        self.assertEqual(flight.standing(), (P, heading))
        self.assertEqual(flight.counts(), [0] * len(walls))
        self.assertEqual(flown(Room(walls), P, heading), ([], outcome))

    def check_hit(self, walls, P, heading, hit):
        check_hits(self, flown(Room(walls), P, heading, 1)[0], [hit])
        check_hits(self, [Flight(Room(walls), P, heading).step()], [hit])

    def test_an_end_of_one_wall_of_each_kind(self):
        for kind in KINDS:
            walls = [kind((0, 2), (4, 2))]
            self.check_ends(walls, (0, 0, 1), (0, 1), ("corner", (2, 1), (0, 2, 1)))
            self.check_ends(walls, (2, 0, 1), (1, 1), ("corner", (2, 1), (4, 2, 1)))
            self.check_ends(walls, (1, 3, 2), (-1, 1), ("corner", (1, 2), (0, 2, 1)))

    def test_an_end_that_is_met_along_the_wall(self):
        for kind in KINDS:
            for one, two in ENDS.values():
                length = max(abs(two[0] - one[0]), abs(two[1] - one[1]))
                a, b = (two[0] - one[0]) // length, (two[1] - one[1]) // length
                P = (2 * one[0] - 3 * a, 2 * one[1] - 3 * b, 2)
                self.check_ends([kind(one, two)], P, (a, b), ("corner", (3, 2), (*one, 1)))
                P = (two[0] + 5 * a, two[1] + 5 * b, 1)
                self.check_ends([kind(one, two)], P, (-a, -b), ("corner", (5, 1), (*two, 1)))

    def test_a_point_of_two_walls_of_whatever_kinds(self):
        for one, other in product(KINDS, KINDS):
            outcome = ("corner", (2, 1), (2, 2, 1))
            self.check_ends([one((0, 0), (4, 4)), other((0, 4), (4, 0))], (2, 0, 1), (0, 1), outcome)
            self.check_ends([one((0, 2), (4, 2)), other((2, 2), (2, 5))], (2, 0, 1), (0, 1), outcome)
            self.check_ends([one((0, 2), (2, 2)), other((2, 2), (5, 2))], (2, 0, 1), (0, 1), outcome)
            self.check_ends([one((0, 0), (1, 1)), other((0, 1), (1, 0))], (1, -2, 2), (0, 1),
                            ("corner", (3, 2), (1, 1, 2)))

    def test_a_point_of_many_walls(self):
        walls = [Mirror((5, 5), (5 + x, 5 + y)) for x in (-2, 0, 2) for y in (-2, 0, 2) if (x, y) != (0, 0)]
        self.check_ends([Glass((20, 0), (20, 9))] + walls, (4, 1, 1), (1, 4), ("corner", (1, 1), (5, 5, 1)))

    def test_a_corner_behind_hits(self):
        self.assertEqual(flown(BOX, (1, 1, 1), (1, 1)), (FIVE, BEHIND_FIVE))
        walls = [Glass((0, 1), (4, 1)), Mirror((0, 2), (4, 2)), Hole((0, -4), (1, -4))]
        self.assertEqual(flown(Room(walls), (1, 0, 1), (0, 1)), (
            [(0, (1, 1), (1, 1, 1), (0, 1)), (1, (2, 1), (1, 2, 1), (0, -1)), (0, (3, 1), (1, 1, 1), (0, -1))],
            ("corner", (8, 1), (1, -4, 1)),
        ))

    def test_a_hole(self):
        walls = [Glass((0, 9), (4, 9)), Hole((0, 2), (4, 2))]
        self.check_ends(walls, (1, 0, 1), (0, 1), ("fell", 1, (2, 1), (1, 2, 1)))
        self.check_ends(walls, (1, 0, 3), (3, 4), ("fell", 1, (1, 2), (11, 12, 6)))
        self.check_ends(walls, (1, 3, 1), (0, -1), ("fell", 1, (1, 1), (1, 2, 1)))
        self.check_ends([Hole((0, 0), (4, 4))], (3, 0, 1), (-1, 1), ("fell", 0, (3, 2), (3, 3, 2)))

    def test_a_hole_behind_hits(self):
        room = Room([Glass((0, 1), (4, 1)), Mirror((0, 2), (4, 2)), Hole((0, -4), (4, -4))])
        hits = [(0, (1, 1), (1, 1, 1), (1, 1)), (1, (2, 1), (2, 2, 1), (1, -1)), (0, (3, 1), (3, 1, 1), (1, -1))]
        self.assertEqual(flown(room, (0, 0, 1), (1, 1)), (hits, ("away",)))
        hits = [(0, (1, 4), (5, 4, 4), (1, 4)), (1, (1, 2), (3, 4, 2), (1, -4)), (0, (3, 4), (7, 4, 4), (1, -4))]
        self.assertEqual(flown(room, (1, 0, 1), (1, 4)), (hits, ("fell", 2, (2, 1), (3, -4, 1))))

    def test_no_meeting(self):
        self.check_ends([], (1, 1, 1), (3, -2), ("away",))
        self.check_ends([Mirror((0, 0), (4, 0))], (1, 1, 1), (1, 0), ("away",))
        self.check_ends([Hole((0, 0), (4, 0))], (1, 1, 1), (0, 1), ("away",))

    def test_behind_a_mirror(self):
        self.check_hit([Mirror((-1, 2), (4, 2))], (0, 0, 1), (1, 1), (0, (2, 1), (2, 2, 1), (1, -1)))
        self.check_hit([Mirror((-2, 1), (2, 5))], (0, 0, 1), (0, 1), (0, (3, 1), (0, 3, 1), (1, 0)))
        self.check_hit([Mirror((3, -2), (3, 1))], (0, 0, 1), (2, -1), (0, (3, 2), (6, -3, 2), (-2, -1)))
        self.check_hit([Mirror((-1, 5), (3, 1))], (0, 0, 1), (1, 2), (0, (4, 3), (4, 8, 3), (-2, -1)))

    def test_behind_a_glass(self):
        self.check_hit([Glass((-1, 2), (4, 2))], (0, 0, 1), (1, 1), (0, (2, 1), (2, 2, 1), (1, 1)))
        self.check_hit([Glass((-2, 1), (2, 5))], (0, 0, 1), (0, 1), (0, (3, 1), (0, 3, 1), (0, 1)))
        self.check_hit([Glass((3, -2), (3, 1))], (0, 0, 1), (2, -1), (0, (3, 2), (6, -3, 2), (2, -1)))
        self.check_hit([Glass((-1, 5), (3, 1))], (0, 0, 1), (1, 2), (0, (4, 3), (4, 8, 3), (1, 2)))

    def test_behind_the_first_hit_at_a_door(self):
        self.check_hit([Door((-1, 2), (4, 2))], (0, 0, 1), (1, 1), (0, (2, 1), (2, 2, 1), (1, -1)))
        self.check_hit([Door((-2, 1), (2, 5), 9)], (0, 0, 1), (0, 1), (0, (3, 1), (0, 3, 1), (1, 0)))
        self.check_hit([Door((3, -2), (3, 1), 1)], (0, 0, 1), (2, -1), (0, (3, 2), (6, -3, 2), (2, -1)))
        self.check_hit([Door((-1, 5), (3, 1), 3)], (0, 0, 1), (1, 2), (0, (4, 3), (4, 8, 3), (-2, -1)))

    def test_the_number_of_the_wall(self):
        walls = [Glass((0, height), (4, height)) for height in (6, 2, 8, 4)]
        hits = flown(Room(walls), (1, 0, 1), (0, 1))[0]
        self.assertEqual([hit[0] for hit in hits], [1, 3, 0, 2])


class TimesTest(unittest.TestCase):
    def test_written_out(self):
        check_hits(self, flown(BOX, (1, 1, 1), (2, 1), 7)[0], SLANTED)

    def test_in_boxes_by_each_number(self):
        for wide, high in ((4, 3), (1, 1), (7, 2), (1000, 999)):
            room = box_of(wide, high)
            for P in ((1, 1, 2), (1, 2, 3), (5, 3, 7), (1, 1, GREAT)):
                for heading in HEADINGS + ((0, 1), (-1, 0), (7, -9), (GREAT, GREAT - 1)):
                    hits = hits_in_box(wide, high, P, heading, 20)
                    check_hits(self, flown(room, P, heading, 20)[0], hits)

    def test_great_numbers(self):
        for P in ((GREAT - 2, GREAT - 1, GREAT), (3, GREAT // 2, GREAT // 3)):
            for heading in ((GREAT - 1, -GREAT), (1, GREAT), (-GREAT, 2)):
                hits = hits_in_box(900, 800, P, heading, 60)
                self.assertEqual(len(hits), 60)
                check_hits(self, flown(box_of(900, 800), P, heading, 60)[0], hits)

    def test_from_far_away(self):
        room = Room([Mirror((-1000, 0), (1000, 0)), Mirror((-1000, 9), (1000, 9))])
        self.assertEqual(flown(room, (0, GREAT, 1), (0, -1)), (
            [(1, (GREAT - 9, 1), (0, 9, 1), (0, 1))], ("away",),
        ))

    def test_a_second_reckoning_in_many_rooms(self):
        for room in ROOMS:
            walls = room.walls()
            for x, y in product((-3, 1, 4, 7, 11), (-1, 2, 5, 7)):
                P = point_at(Fraction(x, 3), Fraction(y, 2))
                if not room.on(P):
                    for heading in HEADINGS:
                        hits, outcome = flight_reckoned(walls, P, heading, 15)
                        told = flown(room, P, heading, 16) if len(hits) < 15 else flown(room, P, heading, 15)
                        self.assertEqual(told, (hits, outcome if len(hits) < 15 else None))


class StepTest(unittest.TestCase):
    def test_hit_by_hit_to_a_corner(self):
        flight = Flight(BOX, (1, 1, 1), (1, 1))
        self.assertEqual(flight.standing(), ((1, 1, 1), (1, 1)))
        self.assertEqual(flight.counts(), [0, 0, 0, 0])
        for hit, counts in zip(FIVE, ([0, 0, 1, 0], [0, 0, 1, 1], [1, 0, 1, 1], [1, 1, 1, 1], [1, 1, 2, 1])):
            self.assertIsNone(flight.outcome())
            self.assertEqual(flight.step(), hit)
            self.assertEqual(flight.standing(), (hit[2], hit[3]))
            self.assertEqual(flight.counts(), counts)
        self.assertIsNone(flight.outcome())
        self.assertIsNone(flight.step())
        self.check_over(flight, BEHIND_FIVE, ((1, 3, 1), (1, -1)), [1, 1, 2, 1])

    def check_over(self, flight, outcome, standing, counts):
        for again in range(3):
            self.assertEqual(flight.outcome(), outcome)
            self.assertEqual(flight.standing(), standing)
            self.assertEqual(flight.counts(), counts)
            check_refused(self, Over, flight.step)

    def test_over_behind_each_outcome(self):
        flight = Flight(Room([]), (1, 1, 1), (1, 2))
        self.assertIsNone(flight.outcome())
        self.assertIsNone(flight.step())
        self.check_over(flight, ("away",), ((1, 1, 1), (1, 2)), [])
        flight = Flight(Room([Hole((0, 5), (4, 5)), Glass((0, 2), (4, 2))]), (1, 1, 1), (0, 1))
        self.assertEqual(flight.step(), (1, (1, 1), (1, 2, 1), (0, 1)))
        self.assertIsNone(flight.outcome())
        self.assertIsNone(flight.step())
        self.check_over(flight, ("fell", 0, (4, 1), (1, 5, 1)), ((1, 2, 1), (0, 1)), [0, 1])

    def test_asking_is_no_step(self):
        flight = Flight(BOX, (1, 1, 1), (2, 1))
        for hit in SLANTED:
            for again in range(3):
                flight.outcome()
                flight.standing()
                flight.counts()
            self.assertEqual(flight.step(), hit)

    def test_kinds(self):
        flight = Flight(BOX, (1, 1, 1), (2, 1))
        for hit in [None] + SLANTED:
            if hit is not None:
                check_hits(self, [flight.step()], [hit])
            standing = flight.standing()
            self.assertIs(type(standing), tuple)
            self.assertEqual(len(standing), 2)
            check_whole_numbers(self, standing[0], 3)
            check_whole_numbers(self, standing[1], 2)
            self.assertIs(type(flight.counts()), list)
            self.assertEqual([type(count) for count in flight.counts()], [int] * 4)

    def test_counts_of_walls_never_hit(self):
        walls = [Glass((0, height), (4, height)) for height in (-3, 2, -5, 3, 9)]
        room = Room(walls + [Hole((0, 5), (4, 5))])
        flight = Flight(room, (1, 1, 1), (0, 1))
        stepped(flight, 3)
        self.assertEqual(flight.outcome()[:2], ("fell", 5))
        self.assertEqual(flight.counts(), [0, 1, 0, 1, 0, 0])

    def test_counts_of_a_wall_hit_often(self):
        flight = Flight(Room([Mirror((0, 0), (4, 0)), Mirror((0, 2), (4, 2))]), (1, 1, 1), (0, 1))
        for half in range(1, 20):
            flight.step()
            self.assertEqual(flight.counts(), [half // 2, (half + 1) // 2])

    def test_counts_told_and_then_changed(self):
        flight = Flight(BOX, (1, 1, 1), (2, 1))
        first = flight.counts()
        first[0] = 7
        first.append(5)
        flight.step()
        second = flight.counts()
        second.clear()
        self.assertEqual(flight.counts(), [0, 0, 0, 1])
        third = flight.counts()
        stepped(flight, 3)
        self.assertEqual(third, [0, 0, 0, 1])
        self.assertEqual(flight.counts(), [1, 1, 1, 1])


class DoorsTest(unittest.TestCase):
    # Up and down between two mirrors with a door halfway between them.
    def hits_at_door(self, every, most):
        hits, above, count = [], False, 0
        for half in range(most):
            if half % 2 == 0:
                count += 1
                above = not above if count % every == 0 else above
                hits.append((1, (1 + 2 * half, 1), (1, 2, 1), (0, 1 if above else -1)))
            else:
                hits.append((2 if above else 0, (1 + 2 * half, 1), (1, 4 if above else 0, 1), (0, -1 if above else 1)))
        return hits

    def test_up_to_and_beyond_its_number(self):
        for every in range(1, 10):
            room = Room([Mirror((0, 0), (3, 0)), Door((0, 2), (3, 2), every), Mirror((0, 4), (3, 4))])
            self.assertEqual(flown(room, (1, 1, 1), (0, 1), 60), (self.hits_at_door(every, 60), None))

    def test_left_out_it_is_two(self):
        room = Room([Mirror((0, 0), (3, 0)), Door((0, 2), (3, 2)), Mirror((0, 4), (3, 4))])
        self.assertEqual(flown(room, (1, 1, 1), (0, 1), 20)[0], self.hits_at_door(2, 20))
        self.assertEqual([hit[0] for hit in flown(room, (1, 1, 1), (0, 1), 8)[0]], [1, 0, 1, 2, 1, 2, 1, 0])

    def test_each_door_has_its_own_count(self):
        room = Room([Door((0, 0), (3, 0), 2), Door((0, 2), (3, 2), 3)])
        self.assertEqual(flown(room, (1, 1, 1), (0, 1)), (
            [(1, (1, 1), (1, 2, 1), (0, -1)), (0, (3, 1), (1, 0, 1), (0, 1)), (1, (5, 1), (1, 2, 1), (0, -1)),
             (0, (7, 1), (1, 0, 1), (0, -1))],
            ("away",),
        ))

    def test_each_flight_has_its_own_counts(self):
        room = Room([Door((0, 2), (9, 2))])
        one, other = Flight(room, (1, 1, 1), (0, 1)), Flight(room, (2, 1, 1), (0, 1))
        self.assertEqual(one.step(), (0, (1, 1), (1, 2, 1), (0, -1)))
        self.assertEqual(other.step(), (0, (1, 1), (2, 2, 1), (0, -1)))
        self.assertEqual((one.counts(), other.counts()), ([1], [1]))

    def test_flights_by_turns(self):
        for room in ROOMS:
            begins = [(P, heading) for P in ((1, 1, 2), (7, 5, 2), (4, 7, 3)) for heading in ((2, 1), (-1, 3))]
            begins = [begin for begin in begins if not room.on(begin[0])]
            alone = [flown(room, P, heading, 10)[0] for P, heading in begins]
            flights = [Flight(room, P, heading) for P, heading in begins]
            told = [[] for flight in flights]
            for turn in range(10):
                for flight, hits in zip(flights, told):
                    if flight.outcome() is None:
                        hit = flight.step()
                        hits.extend([] if hit is None else [hit])
            self.assertEqual(told, alone)

    def test_a_wall_in_two_rooms(self):
        door = Door((0, 2), (9, 2))
        one = Flight(Room([door]), (1, 1, 1), (0, 1))
        other = Flight(Room([Mirror((0, 0), (9, 0)), door]), (1, 1, 1), (0, 1))
        self.assertEqual(one.step()[3], (0, -1))
        self.assertEqual([hit[3] for hit in stepped(other, 3)], [(0, -1), (0, 1), (0, 1)])
        self.assertIsNone(one.step())

    def test_a_room_keeps_nothing_of_a_flight(self):
        room = Room([Mirror((0, 0), (3, 0)), Door((0, 2), (3, 2)), Mirror((0, 4), (3, 4))])
        walls = room.walls()
        kept = [dict(vars(wall)) for wall in walls]
        first = flown(room, (1, 1, 1), (0, 1), 7)
        self.assertEqual(flown(room, (1, 1, 1), (0, 1), 7), first)
        self.assertEqual(room.walls(), walls)
        self.assertEqual([vars(wall) for wall in walls], kept)


class FlownTest(unittest.TestCase):
    def check(self, told, hits, outcome):
        self.assertIs(type(told), tuple)
        self.assertEqual(len(told), 2)
        check_hits(self, told[0], hits)
        self.assertEqual(told[1], outcome)

    def test_most_about_the_number_of_hits(self):
        for most in range(6):
            self.check(flown(BOX, (1, 1, 1), (1, 1), most), FIVE[:most], None)
        for most in (6, 7, 12, 600, 4000, 4001):
            self.check(flown(BOX, (1, 1, 1), (1, 1), most), FIVE, BEHIND_FIVE)
        self.check(flown(BOX, (1, 1, 1), (1, 1)), FIVE, BEHIND_FIVE)

    def test_without_a_hit(self):
        for walls, outcome in (
            ([], ("away",)), ([Hole((0, 2), (4, 2))], ("fell", 0, (1, 1), (1, 2, 1))),
            ([Mirror((1, 2), (4, 2))], ("corner", (1, 1), (1, 2, 1))),
        ):
            self.check(flown(Room(walls), (1, 1, 1), (0, 1), 0), [], None)
            self.check(flown(Room(walls), (1, 1, 1), (0, 1), 1), [], outcome)
            self.check(flown(Room(walls), (1, 1, 1), (0, 1)), [], outcome)

    def test_most_left_out_is_twelve(self):
        for number in range(9, 16):
            room = Room([Glass((0, height), (4, height)) for height in range(1, number + 1)])
            hits = [(k, (k + 1, 1), (1, k + 1, 1), (0, 1)) for k in range(number)]
            self.check(flown(room, (1, 0, 1), (0, 1)), hits[:12], ("away",) if number < 12 else None)
            self.check(flown(room, (1, 0, 1), (0, 1), number - 1), hits[:-1], None)
            self.check(flown(room, (1, 0, 1), (0, 1), number), hits, None)
            self.check(flown(room, (1, 0, 1), (0, 1), number + 1), hits, ("away",))

    def test_most_great(self):
        hits, outcome = flown(BOX, (1, 1, 1), (2, 1), 4000)
        self.assertIsNone(outcome)
        self.assertEqual(len(hits), 4000)
        self.assertEqual(hits[:7], SLANTED)
        self.assertEqual(hits, hits_in_box(4, 3, (1, 1, 1), (2, 1), 4000))

    def test_what_is_told_is_the_askers(self):
        first = flown(BOX, (1, 1, 1), (1, 1))
        first[0].clear()
        second = flown(BOX, (1, 1, 1), (1, 1))
        self.assertEqual(second, (FIVE, BEHIND_FIVE))
        second[0].append(None)
        self.assertEqual(flown(BOX, (1, 1, 1), (1, 1)), (FIVE, BEHIND_FIVE))

    def test_what_is_handed_in_stays(self):
        walls = [Mirror((0, 0), (4, 0)), Door((0, 2), (4, 2))]
        room, P, heading = Room(walls), (1, 1, 1), (0, 1)
        flown(room, P, heading)
        self.assertEqual((room.walls(), P, heading), (walls, (1, 1, 1), (0, 1)))

    def test_walls_altered_behind_the_begin(self):
        walls = [Mirror((0, 2), (4, 2))]
        flight = Flight(Room(walls), (1, 1, 1), (0, 1))
        walls.append(Mirror((0, 0), (4, 0)))
        walls[0] = Hole((0, 2), (4, 2))
        self.assertEqual(flight.step(), (0, (1, 1), (1, 2, 1), (0, -1)))
        self.assertIsNone(flight.step())
        self.assertEqual(flight.outcome(), ("away",))


if __name__ == "__main__":
    unittest.main()
