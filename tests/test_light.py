"""Points 2 and 22 of the document, as bouncewise/light.py keeps them."""

import unittest
from itertools import product

from bouncewise.errors import TooMany
from bouncewise.light import rows_of
from bouncewise.rooms import Room
from bouncewise.walls import Door, Glass, Hole, Mirror
from checks import BOX, ROOMS, check_arguments, check_refused


# As many walls of one kind as are wanted, side by side.
def walls_of(kind, number):
    return [kind((0, height), (4, height)) for height in range(number)]


# All lists of that many numbers, sifted.
def rows_reckoned(numbers, most):
    rows = []
    for length in range(most + 1):
        for row in sorted(product(numbers, repeat=length)):
            if all(one != other for one, other in zip(row, row[1:])):
                rows.append(list(row))
    return rows


# A room has at most forty walls, and with so few no length makes just 600 rows: the bound itself is looked at here.
class WideRoom:
    def __init__(self, number):
        self.number = number

    def walls(self):
        return walls_of(Mirror, self.number)


class RowsTest(unittest.TestCase):
    def check(self, room, most, told):
        rows = rows_of(room, most)
        self.assertEqual(rows, told)
        self.assertIs(type(rows), list)
        for row in rows:
            self.assertIs(type(row), list)
            self.assertEqual([type(number) for number in row], [int] * len(row))

    def test_arguments(self):
        check_arguments(self, rows_of, "room", "most")

    def test_most_nought(self):
        for room in ROOMS + (Room([]), Room(walls_of(Mirror, 40))):
            self.check(room, 0, [[]])

    def test_without_a_turning_wall(self):
        for walls in ([], walls_of(Glass, 40), walls_of(Hole, 3), [Glass((0, 0), (1, 0)), Hole((0, 2), (1, 2))]):
            for most in (0, 1, 2, 60):
                self.check(Room(walls), most, [[]])

    def test_one_turning_wall(self):
        for kind in (Mirror, Door):
            for ahead in (0, 1, 39):
                room = Room(walls_of(Glass, ahead) + [kind((0, 99), (4, 99))])
                self.check(room, 0, [[]])
                for most in (1, 2, 3, 59, 60):
                    self.check(room, most, [[], [ahead]])

    def test_a_door_that_always_lets_by_is_among_them(self):
        self.check(Room([Door((0, 0), (4, 0), 1)]), 2, [[], [0]])

    def test_two_turning_walls(self):
        room = Room([Hole((0, -1), (4, -1)), Mirror((0, 0), (4, 0)), Glass((0, 1), (4, 1)), Door((0, 2), (4, 2))])
        self.check(room, 1, [[], [1], [3]])
        self.check(room, 2, [[], [1], [3], [1, 3], [3, 1]])
        self.check(room, 3, [[], [1], [3], [1, 3], [3, 1], [1, 3, 1], [3, 1, 3]])
        long = [[]]
        for length in range(1, 61):
            long.append(([1, 3] * 30)[:length])
            long.append(([3, 1] * 30)[:length])
        self.check(room, 60, long)
        self.check(room, 59, long[:-2])

    def test_several_turning_walls(self):
        self.check(BOX, 1, [[], [0], [1], [2], [3]])
        self.check(BOX, 2, [
            [], [0], [1], [2], [3], [0, 1], [0, 2], [0, 3], [1, 0], [1, 2], [1, 3], [2, 0], [2, 1], [2, 3], [3, 0],
            [3, 1], [3, 2],
        ])

    def test_sifted_from_all_lists(self):
        for room in ROOMS:
            numbers = [number for number, wall in enumerate(room.walls()) if wall.word() in ("mirror", "door")]
            for most in range(5):
                told = rows_reckoned(numbers, most)
                if len(told) <= 600:
                    self.check(room, most, told)
                else:
                    check_refused(self, TooMany, rows_of, room, most)

    def test_numbers_of_two_figures_in_the_order_of_lists(self):
        room = Room(walls_of(Glass, 8) + [Mirror((9, 0), (9, 5)), Door((10, 0), (10, 5)), Mirror((11, 0), (11, 5))])
        self.check(room, 2, [[], [8], [9], [10], [8, 9], [8, 10], [9, 8], [9, 10], [10, 8], [10, 9]])

    def test_up_to_the_bound(self):
        told = (
            (3, 7, 382), (4, 5, 485), (5, 4, 426), (6, 3, 187), (8, 3, 457), (24, 2, 577), (25, 1, 26), (40, 1, 41),
        )
        for number, most, total in told:
            rows = rows_of(Room(walls_of(Mirror, number)), most)
            self.assertEqual(len(rows), total)
            self.assertEqual(rows, sorted(rows, key=lambda row: (len(row), row)))
            if most < 5:
                self.assertEqual(rows, rows_reckoned(range(number), most))

    def test_just_beyond_the_bound(self):
        for number, most in ((3, 8), (4, 6), (5, 5), (6, 4), (9, 3), (25, 2), (40, 2)):
            check_refused(self, TooMany, rows_of, Room(walls_of(Mirror, number)), most)
            check_refused(self, TooMany, rows_of, Room(walls_of(Door, number)), most)

    def test_just_six_hundred(self):
        rows = rows_of(WideRoom(599), 1)
        self.assertEqual(rows, [[]] + [[number] for number in range(599)])
        check_refused(self, TooMany, rows_of, WideRoom(600), 1)
        self.assertEqual(rows_of(WideRoom(600), 0), [[]])

    def test_glasses_and_holes_are_not_counted(self):
        walls = walls_of(Mirror, 24) + [Glass((0, height), (4, height)) for height in range(50, 60)]
        self.assertEqual(len(rows_of(Room(walls + [Hole((0, 70), (4, 70))]), 2)), 577)

    # Were they made and not counted ahead, this would never end.
    def test_counted_ahead(self):
        for number in (3, 4, 39, 40):
            check_refused(self, TooMany, rows_of, Room(walls_of(Mirror, number)), 60)

    def test_what_is_told_is_the_askers(self):
        for room, most in ((BOX, 2), (Room([]), 1), (Room(walls_of(Mirror, 2)), 60)):
            told = rows_of(room, most)
            kept = [list(row) for row in told]
            for row in told:
                row.append(99)
            self.assertEqual(told, [row + [99] for row in kept])
            told.clear()
            self.assertEqual(rows_of(room, most), kept)


if __name__ == "__main__":
    unittest.main()
