"""Points 2, 3, 20 and 21 of the document, as bouncewise/pictures.py keeps them."""

import unittest
from itertools import product

from bouncewise.flights import Flight, flown
from bouncewise.pictures import mirror_in, picture, turners, unfolded
from bouncewise.points import spot_at
from bouncewise.rooms import Room
from bouncewise.walls import Door, Glass, Hole, Mirror
from checks import (
    BOX, ENDS, GREAT, ROOMS, check_arguments, check_on_wall, check_whole_numbers, flight_reckoned, image_reckoned,
    picture_reckoned,
)

KINDS = (Mirror, Glass, Hole, Door)
POINTS = ((0, 0, 1), (1, 2, 1), (3, -5, 2), (-7, 4, 3), (GREAT, -GREAT, 1), (1, GREAT - 1, GREAT))
HEADINGS = ((1, 1), (2, 1), (-1, 3), (-3, -2), (5, -7), (0, 1), (-1, 0))

# Up and down between two mirrors, with a door and a glass between them; the door lets by each third time.
WELL = Room([
    Mirror((0, 0), (3, 0)), Door((0, 2), (3, 2), 3), Mirror((0, 4), (3, 4)), Glass((0, 1), (3, 1)),
    Hole((9, 0), (9, 4)),
])


class InterfaceTest(unittest.TestCase):
    def test_arguments(self):
        check_arguments(self, mirror_in, "wall")
        check_arguments(self, picture, "room", "row", "P")
        check_arguments(self, turners, "room", "hits", "heading")
        check_arguments(self, unfolded, "room", "P", "heading", most=12)


class MirrorInTest(unittest.TestCase):
    def test_each_kind_and_line(self):
        for kind, line in product(KINDS, ENDS):
            wall = kind(*ENDS[line])
            mirror = mirror_in(wall)
            for P in POINTS:
                told = mirror(P)
                self.assertEqual(told, image_reckoned(wall, P))
                check_whole_numbers(self, told, 3)
                self.assertEqual(mirror(told), P)

    def test_written_out(self):
        self.assertEqual(mirror_in(Mirror((0, 3), (4, 3)))((1, 2, 1)), (1, 4, 1))
        self.assertEqual(mirror_in(Glass((0, 1), (4, 5)))((1, 0, 2)), (-2, 3, 2))
        self.assertEqual(mirror_in(Hole((5, 0), (5, 1)))((1, 2, 3)), (29, 2, 3))
        self.assertEqual(mirror_in(Door((0, 4), (4, 0), 7))((1, 1, 1)), (3, 3, 1))

    def test_several_side_by_side(self):
        walls = [kind(*ENDS[line]) for kind, line in product(KINDS, ENDS)]
        mirrors = [mirror_in(wall) for wall in walls]
        for again in range(2):
            for P in POINTS:
                self.assertEqual([mirror(P) for mirror in mirrors], [image_reckoned(wall, P) for wall in walls])

    def test_one_in_the_other(self):
        one, other = mirror_in(Mirror((0, 0), (0, 5))), mirror_in(Mirror((3, 0), (3, 5)))
        self.assertEqual(one(other((1, 1, 1))), (-5, 1, 1))
        self.assertEqual(other(one((1, 1, 1))), (7, 1, 1))
        self.assertEqual(one(other(one(other((1, 1, 1))))), (-11, 1, 1))


class PictureTest(unittest.TestCase):
    def check(self, room, row, P, told):
        point = picture(room, row, P)
        self.assertEqual(point, told, (row, P))
        check_whole_numbers(self, point, 3)

    def test_in_no_walls(self):
        for room in ROOMS + (Room([]),):
            for P in POINTS:
                self.check(room, [], P, P)

    def test_in_one_wall(self):
        for room in ROOMS:
            for number, wall in enumerate(room.walls()):
                for P in POINTS:
                    self.check(room, [number], P, image_reckoned(wall, P))

    def test_the_last_wall_first(self):
        self.check(BOX, [0, 2], (1, 1, 1), (1, -5, 1))
        self.check(BOX, [2, 0], (1, 1, 1), (1, 7, 1))
        self.check(BOX, [1, 3], (1, 1, 1), (-7, 1, 1))
        self.check(BOX, [3, 1, 0], (1, 2, 3), (25, -2, 3))
        self.check(BOX, [0, 2, 0], (1, 1, 1), (1, -7, 1))
        self.check(ROOMS[2], [0, 4], (1, 2, 1), (1, 4, 1))
        self.check(ROOMS[2], [4, 0], (1, 2, 1), (-1, 2, 1))

    def test_the_same_wall_twice_running(self):
        for room in ROOMS:
            for number in range(len(room.walls())):
                for P in POINTS:
                    self.check(room, [number, number], P, P)
                    self.check(room, [0, number, number, 1], P, picture(room, [0, 1], P))
                    self.check(room, [number] * 59, P, picture(room, [number], P))

    def test_all_rows_of_three_walls(self):
        for room in ROOMS:
            walls = room.walls()
            for row in product(range(len(walls)), repeat=3):
                self.check(room, list(row), (2, 7, 5), picture_reckoned(walls, row, (2, 7, 5)))

    def test_long_rows(self):
        self.check(BOX, [0, 2] * 30, (1, 1, 1), (1, 1 - 60 * 3, 1))
        self.check(BOX, [3, 1] * 30, (1, 1, 1), (1 + 60 * 4, 1, 1))
        self.check(BOX, [0, 1, 2, 3] * 1000, (1, 1, 1), (1 - 2000 * 4, 1 - 2000 * 3, 1))

    def test_the_row_stays_as_it_was(self):
        row = [0, 2, 1, 1, 3]
        picture(BOX, row, (1, 1, 1))
        self.assertEqual(row, [0, 2, 1, 1, 3])
        row.reverse()
        self.check(BOX, row, (1, 2, 3), picture_reckoned(BOX.walls(), row, (1, 2, 3)))


class TurnersTest(unittest.TestCase):
    def check(self, room, P, heading, most, told):
        hits = flown(room, P, heading, most)[0]
        numbers = turners(room, hits, heading)
        self.assertEqual(numbers, told)
        self.assertIs(type(numbers), list)
        self.assertEqual([type(number) for number in numbers], [int] * len(told))

    def test_of_no_hits(self):
        self.check(BOX, (1, 1, 1), (1, 1), 0, [])
        self.assertEqual(turners(Room([]), [], (1, 0)), [])

    def test_mirrors(self):
        self.check(BOX, (1, 1, 1), (1, 1), 12, [2, 3, 0, 1, 2])
        self.check(BOX, (1, 1, 1), (1, 1), 3, [2, 3, 0])
        self.check(BOX, (1, 1, 1), (1, 0), 5, [3, 1, 3, 1, 3])

    def test_glasses(self):
        room = Room([Glass((0, height), (9, height)) for height in (2, 3, 4)] + [Mirror((0, 5), (9, 5))])
        self.check(room, (1, 1, 1), (0, 1), 12, [3])
        self.check(room, (1, 1, 1), (0, 1), 3, [])
        self.check(room, (1, 1, 1), (1, 1), 4, [3])

    def test_doors_that_let_by_and_that_did_not(self):
        hits = [3, 1, 3, 0, 3, 1, 3, 0, 3, 1, 2, 1, 2, 1, 2, 1, 3, 0]
        flight = flown(WELL, (1, 1, 2), (0, 1), len(hits))[0]
        self.assertEqual([hit[0] for hit in flight], hits)
        turned = [0, 1, 0, 1, 0, 1, 0, 1, 0, 0, 1, 1, 1, 1, 1, 0, 0, 1]
        for most in range(len(hits) + 1):
            told = [number for number, by in zip(hits[:most], turned) if by]
            self.check(WELL, (1, 1, 2), (0, 1), most, told)
            self.assertEqual(turners(WELL, flight[:most], (0, 1)), told)

    def test_doors_of_each_number(self):
        for every in range(1, 10):
            room = Room([Mirror((0, 0), (3, 0)), Door((0, 2), (3, 2), every)])
            numbers = [1, 0] * (every - 1)
            self.check(room, (1, 1, 1), (0, 1), 40, numbers)

    def test_all_flights_and_all_of_their_first_hits(self):
        for room in ROOMS:
            walls = room.walls()
            for P, heading in product(((1, 1, 2), (7, 5, 2), (4, 7, 3), (-1, 1, 2)), HEADINGS):
                if not room.on(P):
                    self.check_first_hits(room, walls, heading, flown(room, P, heading, 15)[0])

    # By the counts of the hits, where the program may go by headings.
    def check_first_hits(self, room, walls, heading, hits):
        told, counts = [], [0] * len(walls)
        for most, hit in enumerate(hits):
            self.assertEqual(turners(room, hits[:most], heading), told)
            wall = walls[hit[0]]
            counts[hit[0]] += 1
            if wall.turns() and (wall.word() == "mirror" or counts[hit[0]] % wall.every() != 0):
                told.append(hit[0])
        self.assertEqual(turners(room, hits, heading), told)

    def test_the_hits_stay_as_they_were(self):
        hits = flown(BOX, (1, 1, 1), (1, 1))[0]
        kept = list(hits)
        first = turners(BOX, hits, (1, 1))
        self.assertEqual(hits, kept)
        first.clear()
        self.assertEqual(turners(BOX, hits, (1, 1)), [2, 3, 0, 1, 2])

    def test_hits_of_a_flight_stepped(self):
        flight = Flight(BOX, (1, 1, 1), (1, 1))
        self.assertEqual(turners(BOX, [flight.step(), flight.step()], (1, 1)), [2, 3])


class UnfoldedTest(unittest.TestCase):
    def check(self, room, P, heading, told, hits):
        self.assertIs(type(told), list)
        self.assertEqual([part[0] for part in told], [hit[1] for hit in hits])
        for part in told:
            self.assertIs(type(part), tuple)
            self.assertEqual(part, (part[0], spot_at(P, heading, part[0])))
            check_whole_numbers(self, part[0], 2)
            check_whole_numbers(self, part[1], 3)

    def test_written_out(self):
        self.assertEqual(unfolded(BOX, (1, 1, 1), (1, 1)), [
            ((2, 1), (3, 3, 1)), ((3, 1), (4, 4, 1)), ((5, 1), (6, 6, 1)), ((7, 1), (8, 8, 1)), ((8, 1), (9, 9, 1)),
        ])
        self.assertEqual(unfolded(BOX, (1, 1, 1), (2, 1), 3), [
            ((3, 2), (8, 5, 2)), ((2, 1), (5, 3, 1)), ((7, 2), (16, 9, 2)),
        ])
        self.assertEqual(unfolded(WELL, (1, 1, 2), (0, 1), 5), [
            ((1, 2), (1, 2, 2)), ((3, 2), (1, 4, 2)), ((5, 2), (1, 6, 2)), ((7, 2), (1, 8, 2)), ((9, 2), (1, 10, 2)),
        ])

    def test_on_the_straight_line_from_the_begin(self):
        for room in ROOMS + (WELL,):
            for P, heading in product(((1, 1, 2), (7, 5, 2), (4, 7, 3), (-1, 1, 2)), HEADINGS):
                if not room.on(P):
                    for most in (0, 1, 2, 20):
                        hits = flown(room, P, heading, most)[0]
                        self.check(room, P, heading, unfolded(room, P, heading, most), hits)

    def test_the_picture_in_the_turners_ahead(self):
        for room in ROOMS + (WELL,):
            walls = room.walls()
            for heading in HEADINGS:
                hits = flight_reckoned(walls, (5, 3, 2), heading, 12)[0]
                told = []
                for number, hit in enumerate(hits):
                    row = turners(room, hits[:number], heading)
                    told.append((hit[1], picture_reckoned(walls, row, hit[2])))
                self.assertEqual(unfolded(room, (5, 3, 2), heading), told)

    def test_most_left_out_is_twelve(self):
        for number in (11, 12, 13, 20):
            room = Room([Glass((0, height), (4, height)) for height in range(1, number + 1)])
            told = [((height, 1), (1, height, 1)) for height in range(1, min(number, 12) + 1)]
            self.assertEqual(unfolded(room, (1, 0, 1), (0, 1)), told)
        self.assertEqual(len(unfolded(BOX, (1, 1, 1), (2, 1))), 12)
        self.assertEqual(len(unfolded(BOX, (1, 1, 1), (2, 1), most=13)), 13)

    def test_without_hits(self):
        self.assertEqual(unfolded(Room([]), (1, 1, 1), (1, 2)), [])
        self.assertEqual(unfolded(BOX, (1, 1, 1), (1, 2), 0), [])

    def test_many_hits(self):
        told = unfolded(BOX, (1, 1, 1), (2, 1), 600)
        self.check(BOX, (1, 1, 1), (2, 1), told, flown(BOX, (1, 1, 1), (2, 1), 600)[0])

    def test_great_numbers(self):
        P, heading = (GREAT - 2, GREAT - 1, GREAT), (GREAT - 1, -GREAT)
        self.check(BOX, P, heading, unfolded(BOX, P, heading, 40), flown(BOX, P, heading, 40)[0])

    def test_a_begin_on_a_wall(self):
        for most in (0, 1, 12):
            check_on_wall(self, 3, unfolded, BOX, (4, 1, 1), (1, 1), most)
            check_on_wall(self, 0, unfolded, BOX, (0, 0, 1), (1, 1), most)
            check_on_wall(self, 4, unfolded, WELL, (9, 4, 1), (1, 1), most)
        check_on_wall(self, 1, unfolded, BOX, (0, 3, 2), (1, 1))

    def test_what_is_told_is_the_askers(self):
        first = unfolded(BOX, (1, 1, 1), (1, 1), 1)
        first.clear()
        self.assertEqual(unfolded(BOX, (1, 1, 1), (1, 1), 1), [((2, 1), (3, 3, 1))])


if __name__ == "__main__":
    unittest.main()
