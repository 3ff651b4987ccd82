"""Points 2 and 3 of the document over the whole program: what is told of a flight in several ways agrees."""

import unittest
from fractions import Fraction
from itertools import product

from bouncewise.boxes import box_at, box_corner, box_round
from bouncewise.desk import Desk
from bouncewise.drawings import drawn, read_drawing
from bouncewise.flights import Flight, flown
from bouncewise.light import rows_of
from bouncewise.meets import first_met, time_to
from bouncewise.papers import paper, ways
from bouncewise.pictures import picture, turners, unfolded
from bouncewise.points import added, spot_at
from bouncewise.rooms import Room
from bouncewise.rounds import latest, round_of
from bouncewise.texts import point_text, read_room, room_text
from bouncewise.walls import Door, Glass, Hole, Mirror
from checks import BOX, ROOMS, box_of, place, point_at, standing_at, told_of

# Beside those: closed ones with doors, glass and slanting walls, and one with a hole.
ALL_ROOMS = ROOMS + (
    Room(box_of(5, 4).walls() + [Door((2, 0), (2, 4), 3), Glass((3, 1), (5, 3)), Mirror((4, 4), (5, 3))]),
    Room([Mirror((0, 0), (5, 0)), Mirror((0, 0), (5, 5)), Door((5, 0), (5, 5), 2), Mirror((7, 0), (7, 5)),
          Mirror((5, 5), (7, 5)), Mirror((5, 0), (7, 0)), Hole((6, 2), (6, 3))]),
)
HEADINGS = ((1, 0), (0, -1), (1, 1), (-1, 1), (2, 1), (-1, 3), (-3, -2))
MOST = 14


def all_flights():
    for room in ALL_ROOMS:
        for x, y in product((Fraction(1, 2), Fraction(7, 3), Fraction(3)), repeat=2):
            begin = point_at(x, y + Fraction(1, 7))
            for heading in HEADINGS if not room.on(begin) else ():
                yield room, begin, heading


# The flight's pieces: where each begins, its heading and time, and how many hits are ahead of it.
def pieces(begin, heading, hits):
    told = [(begin, heading, (0, 1), 0)]
    return told + [(point, ahead, time, count + 1) for count, (number, time, point, ahead) in enumerate(hits)]


# Where the piece that began so ends; some way on where nothing is met any more.
def end_of(room, point, ahead, since):
    met = first_met(room, point, ahead)
    return added(since, (5, 1) if met is None else met[0])


def halfway(one, other):
    return (Fraction(*one) + Fraction(*other)) / 2


class FlightsTest(unittest.TestCase):
    def test_hit_by_hit(self):
        for room, begin, heading in all_flights():
            hits, outcome = flown(room, begin, heading, MOST)
            flight = Flight(room, begin, heading)
            for hit in hits:
                self.assertEqual(flight.step(), hit)
                self.assertEqual(flight.standing(), hit[2:])
            if outcome is not None:
                self.assertIsNone(flight.step())
            self.assertEqual(flight.outcome(), outcome)
            numbers = [hit[0] for hit in hits]
            self.assertEqual(flight.counts(), [numbers.count(number) for number in range(len(room.walls()))])

    def test_between_two_hits_no_wall_has_a_point_in_common_with_it(self):
        for room, begin, heading in all_flights():
            hits, outcome = flown(room, begin, heading, MOST)
            for (point, ahead, since, count), hit in zip(pieces(begin, heading, hits), hits):
                lasts = Fraction(*hit[1]) - Fraction(*since)
                self.assertGreater(lasts, 0)
                for number, wall in enumerate(room.walls()):
                    time = time_to(wall, point, ahead)
                    if number == hit[0]:
                        self.assertEqual(time, told_of(lasts))
                    else:
                        self.assertTrue(time is None or Fraction(*time) > lasts)

    def test_each_hit_is_at_just_one_wall(self):
        for room, begin, heading in all_flights():
            for number, time, point, ahead in flown(room, begin, heading, MOST)[0]:
                self.assertEqual(room.on(point), [number])
                self.assertFalse(room.is_corner(point))
                self.assertNotEqual(room.walls()[number].word(), "hole")

    def test_each_outcome_is_where_it_is_met(self):
        words = {}
        for room, begin, heading in all_flights():
            hits, outcome = flown(room, begin, heading, MOST)
            if outcome is not None:
                words[outcome[0]] = True
                point, ahead, since, count = pieces(begin, heading, hits)[-1]
                met = first_met(room, point, ahead)
                self.assertEqual(met is None, outcome == ("away",))
                if met is not None:
                    self.assertEqual(outcome[-2:], (added(since, met[0]), met[1]))
                    self.assertEqual(room.is_corner(met[1]), outcome[0] == "corner")
        self.assertEqual(sorted(words), ["away", "corner", "fell"])


class UnfoldedTest(unittest.TestCase):
    def test_the_hits_lie_on_one_straight_line_at_the_times_told(self):
        for room, begin, heading in all_flights():
            hits = flown(room, begin, heading, MOST)[0]
            rows = [turners(room, hits[:count], heading) for count in range(len(hits))]
            told = unfolded(room, begin, heading, MOST)
            self.assertEqual(told, [(hit[1], picture(room, row, hit[2])) for hit, row in zip(hits, rows)])
            self.assertEqual(told, [(hit[1], spot_at(begin, heading, hit[1])) for hit in hits])

    def test_so_do_the_places_between_and_of_the_outcome(self):
        for room, begin, heading in all_flights():
            hits, outcome = flown(room, begin, heading, MOST)
            row = turners(room, hits, heading)
            if outcome not in (None, ("away",)):
                self.assertEqual(picture(room, row, outcome[-1]), spot_at(begin, heading, outcome[-2]))
            for point, ahead, since, count in pieces(begin, heading, hits):
                T = halfway(since, end_of(room, point, ahead, since))
                spot = standing_at(begin, heading, hits[:count], T)
                row = turners(room, hits[:count], heading)
                self.assertEqual(picture(room, row, spot), spot_at(begin, heading, told_of(T)))


class LightTest(unittest.TestCase):
    def test_light_comes_to_each_place_of_a_flight_by_its_turners(self):
        for room, begin, heading in all_flights():
            hits = flown(room, begin, heading, MOST)[0]
            for point, ahead, since, count in pieces(begin, heading, hits):
                T = halfway(since, end_of(room, point, ahead, since))
                spot = standing_at(begin, heading, hits[:count], T)
                row = turners(room, hits[:count], heading)
                self.assertEqual(paper(room, begin, spot, row), ("comes", heading, hits[:count], spot))

    def test_it_is_one_of_the_ways(self):
        for room, begin, heading in list(all_flights())[::5]:
            hits = flown(room, begin, heading, 3)[0]
            row = turners(room, hits, heading)
            if len(row) == 2:
                T = halfway(hits[-1][1], end_of(room, *hits[-1][2:], hits[-1][1]))
                spot = standing_at(begin, heading, hits, T)
                self.assertIn((row, heading), ways(room, begin, spot, 2))

    # Q is so that its picture in the flight's turners lies on the flight's straight line, behind the outcome.
    def test_the_paper_of_a_place_behind_the_outcome_tells_the_outcome(self):
        words = []
        for room, begin, heading in all_flights():
            hits, outcome = flown(room, begin, heading, MOST)
            if outcome not in (None, ("away",)):
                row = turners(room, hits, heading)
                R = spot_at(begin, heading, added(outcome[-2], (1, 97)))
                goal = picture(room, row[::-1], R)
                if not room.on(goal):
                    self.assertEqual(paper(room, begin, goal, row), (outcome[0], heading, hits, outcome[-1]))
                    words.append(outcome[0])
        self.assertGreater(words.count("corner"), 3)
        self.assertGreater(words.count("fell"), 3)

    def test_each_paper_tells_what_the_flight_meets(self):
        words = {}
        goals = ((10, 5, 3), (1, 2, 5), (13, 9, 4), (-3, 2, 1), (7, 1, 2), (9, 10, 2))
        for room, begin, goal in product(ALL_ROOMS, ((45, 28, 20), (1, 1, 2), (5, 3, 2)), goals):
            for row in rows_of(room, 2) if not room.on(begin) and not room.on(goal) else ():
                written = paper(room, begin, goal, row)
                self.check_paper(room, begin, goal, row, written)
                words[written[0]] = True
        self.assertEqual(sorted(words), ["comes", "corner", "fell", "here", "other", "short"])

    def check_paper(self, room, begin, goal, row, written):
        word, heading, hits, spot = written
        self.assertEqual(word == "here", picture(room, row, goal) == begin)
        if word == "here":
            return
        flight, outcome = flown(room, begin, heading, len(hits) + 1)
        self.assertEqual(flight[:len(hits)], hits)
        turned = turners(room, hits, heading)
        if word == "other":
            self.assertNotEqual(turned, row[:len(turned)])
            self.assertEqual((turned[:-1], spot), (row[:len(turned) - 1], hits[-1][2]))
            return
        self.assertEqual(turned, row[:len(turned)])
        if word in ("corner", "fell"):
            self.assertEqual((outcome[0], outcome[-1]), (word, spot))
            return
        self.assertEqual(word, "comes" if turned == row else "short")
        if word == "comes":
            self.assertEqual(spot, goal)
            self.assertEqual(picture(room, row, goal), self.straight_on(room, begin, goal, row, written))

    def straight_on(self, room, begin, goal, row, written):
        right, up = [far - near for far, near in zip(place(picture(room, row, goal)), place(begin))]
        T = right / written[1][0] if written[1][0] else up / written[1][1]
        self.assertEqual(standing_at(begin, written[1], written[2], T), goal)
        return spot_at(begin, written[1], told_of(T))


class OutcomesTest(unittest.TestCase):
    def test_each_flight_has_one_of_four_outcomes(self):
        words = {}
        for room, begin, heading in all_flights():
            word, time, count = round_of(room, begin, heading)
            hits, outcome = flown(room, begin, heading, count + 1)
            words[word] = True
            if word == "round":
                self.check_round(room, begin, heading, time, hits[:count])
            else:
                self.assertEqual((outcome[0], len(hits)), (word, count))
                self.assertEqual(time, None if word == "away" else outcome[-2])
        self.assertEqual(sorted(words), ["away", "corner", "fell", "round"])

    def check_round(self, room, begin, heading, time, hits):
        self.assertEqual(time[1], 1)
        self.assertLessEqual(time[0], latest(room))
        self.assertEqual(standing_at(begin, heading, hits, Fraction(*time)), begin)
        self.assertEqual(hits[-1][3], heading)
        numbers = [hit[0] for hit in hits]
        for number, wall in enumerate(room.walls()):
            self.assertEqual(numbers.count(number) % wall.every(), 0)

    def test_light_comes_to_the_begin_of_a_round_flight_by_its_turners(self):
        rounds = 0
        for room, begin, heading in all_flights():
            word, time, count = round_of(room, begin, heading)
            hits = flown(room, begin, heading, count)[0]
            row = turners(room, hits, heading)
            if word == "round" and len(row) <= 60:
                self.assertEqual(picture(room, row, begin), spot_at(begin, heading, time))
                self.assertEqual(paper(room, begin, begin, row), ("comes", heading, hits, begin))
                rounds += 1
        self.assertGreater(rounds, 20)

    def test_in_a_box_of_four_mirrors_by_numbers(self):
        for wide, high in ((4, 3), (5, 5), (1, 6)):
            room = box_of(wide, high)
            shares = (Fraction(1, 2), Fraction(2, 7), Fraction(1, 3))
            for right, up, heading in product(shares, shares, HEADINGS):
                begin = point_at(right * wide, up * high)
                word, time, count = round_of(room, begin, heading)
                corner = box_corner(wide, high, begin, heading)
                self.assertEqual((word, time), ("corner", corner) if corner else ("round", (time[0], 1)))
                if word == "round":
                    self.assertEqual(box_round(wide, high, begin, heading), (time[0], count))
                for hit in flown(room, begin, heading, count)[0]:
                    self.assertEqual(box_at(wide, high, begin, heading, hit[1]), hit[2:])


class DeskAndDrawingsTest(unittest.TestCase):
    def test_the_desk_tells_of_the_same_flight(self):
        for room, begin, heading in list(all_flights())[::3]:
            desk = Desk()
            self.assertEqual(desk.say("room a " + room_text(room)), "ok")
            asked = f"a {point_text(begin)} {heading[0]},{heading[1]}"
            word, time, count = round_of(room, begin, heading)
            told = desk.say("round " + asked).split(" ")
            self.assertEqual((told[0], told[-1]), (word, str(count)))
            flight = desk.say(f"fly {asked} {count + 1}").split("; ")
            self.assertEqual(flight[-1], "going" if word == "round" else word)
            self.assertEqual(len(flight), count + (2 if word == "round" else 1))
            met = desk.say("first " + asked)
            self.assertEqual(met == "none", (word, count) == ("away", 0))
            if count > 0:
                self.assertEqual([flight[0].split(" ")[1:], flight[0].split(" ")[0]],
                                 [met.split(" ")[:2], met.split(" ")[2]])

    def test_a_room_of_mirrors_read_from_its_drawing_is_flown_alike(self):
        rows = drawn(BOX, 4, 3)
        room = read_drawing(rows)
        for heading in HEADINGS:
            told = [hit[1:] for hit in flown(room, (1, 2, 3), heading, MOST)[0]]
            self.assertEqual(told, [hit[1:] for hit in flown(BOX, (1, 2, 3), heading, MOST)[0]])
            self.assertEqual(round_of(room, (1, 2, 3), heading), round_of(BOX, (1, 2, 3), heading))


class LeftAsItWasTest(unittest.TestCase):
    def test_a_list_of_walls_altered_afterwards(self):
        walls = BOX.walls()
        room = Room(walls)
        walls.clear()
        self.assertEqual(self.told_of_all(room), self.told_of_all(BOX))

    def test_lists_that_were_told_altered_afterwards(self):
        room = read_room(room_text(BOX))
        first = self.told_of_all(room)
        for told in first:
            if isinstance(told, list):
                told.clear()
        room.walls().clear()
        self.assertEqual(self.told_of_all(room), self.told_of_all(BOX))

    def told_of_all(self, room):
        begin, heading = (1, 1, 1), (2, 1)
        hits, outcome = flown(room, begin, heading, 5)
        return [
            hits, outcome, unfolded(room, begin, heading, 5), turners(room, hits, heading), rows_of(room, 2),
            ways(room, begin, (3, 1, 1), 2), paper(room, begin, (3, 1, 1), [0]), round_of(room, begin, heading),
            latest(room), drawn(room, 4, 3), first_met(room, begin, heading), room.on((0, 0, 1)), room.box(),
            Flight(room, begin, heading).counts(), room_text(room),
        ]


if __name__ == "__main__":
    unittest.main()
