"""Flights, told hit by hit up to their outcome."""

from bouncewise.errors import OnWall, Over
from bouncewise.meets import first_met
from bouncewise.points import added


def check_off_walls(room, P):
    numbers = room.on(P)
    if len(numbers) > 0:
        raise OnWall(numbers[0])


class Flight:
    def __init__(self, room, P, heading):
        check_off_walls(room, P)
        self.room = room
        self.point = P
        self.heading = heading
        self.time = (0, 1)
        self.often = [0 for wall in room.walls()]
        self.ending = None

    def step(self):
        if self.ending is not None:
            raise Over("the flight has come to its outcome")
        met = first_met(self.room, self.point, self.heading)
        if met is None:
            return self.end(("away",))
        return self.meet(added(self.time, met[0]), met[1], met[2][0])

    # The number is that of the point's one wall, but at a corner, where it is not asked for.
    def meet(self, time, point, number):
        if self.room.is_corner(point):
            return self.end(("corner", time, point))
        heading = self.room.walls()[number].behind(self.heading, self.often[number] + 1)
        if heading is None:
            return self.end(("fell", number, time, point))
        return self.hit(number, time, point, heading)

    def end(self, outcome):
        self.ending = outcome
        return None

    def hit(self, number, time, point, heading):
        self.often[number] += 1
        self.time = time
        self.point = point
        self.heading = heading
        return (number, time, point, heading)

    def outcome(self):
        return self.ending

    def standing(self):
        return (self.point, self.heading)

    def counts(self):
        return list(self.often)


def flown(room, P, heading, most=12):
    flight = Flight(room, P, heading)
    hits = []
    while len(hits) < most:
        hit = flight.step()
        if hit is None:
            break
        hits.append(hit)
    return (hits, flight.outcome())
