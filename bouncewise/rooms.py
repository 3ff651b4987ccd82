"""Rooms: lists of walls, no two of which have more than one point in common."""

from bouncewise.errors import Overlap, TooMany

MOST_WALLS = 40


# Walls on one straight line alone can have more than one point in common; there the order of tuples is the order
# along the line.
def overlapping(one, other):
    if one.line() != other.line() or one.offset() != other.offset():
        return False
    return max(one.one, other.one) < min(one.two, other.two)


# The numbers rise, so that the first pair found has the least other, and with it the least one.
def check_apart(walls):
    for other in range(len(walls)):
        for one in range(other):
            if overlapping(walls[one], walls[other]):
                raise Overlap(one, other)


class Room:
    def __init__(self, walls):
        if len(walls) > MOST_WALLS:
            raise TooMany("a room has at most forty walls")
        check_apart(walls)
        self.kept = list(walls)

    def walls(self):
        return list(self.kept)

    def on(self, P):
        return [number for number, wall in enumerate(self.kept) if wall.holds(P)]

    def is_corner(self, P):
        numbers = self.on(P)
        return len(numbers) > 1 or any([self.kept[number].ends_at(P) for number in numbers])

    def box(self):
        if len(self.kept) == 0:
            return None
        ends = [wall.one for wall in self.kept] + [wall.two for wall in self.kept]
        right = [end[0] for end in ends]
        up = [end[1] for end in ends]
        return (min(right), min(up), max(right), max(up))
