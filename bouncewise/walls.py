"""Walls from whole point to whole point along one of the four lines, and what each kind does to a heading."""

from bouncewise.errors import BadWall
from bouncewise.headings import across, heading_of, line_of, mirrored
from bouncewise.points import as_point

FARTHEST = 1000
GREATEST_EVERY = 9


def check_end(end):
    for number in end:
        if abs(number) > FARTHEST:
            raise BadWall("a wall's end lies too far out")


def line_between(one, two):
    if one == two:
        raise BadWall("both ends of a wall are one point")
    line = line_of(heading_of(two[0] - one[0], two[1] - one[1]))
    if line is None:
        raise BadWall("a wall lies along none of the four lines")
    return line


class Wall:
    def __init__(self, one, two):
        check_end(one)
        check_end(two)
        self.one = min(one, two)
        self.two = max(one, two)
        self.along = line_between(one, two)

    def line(self):
        return self.along

    def offset(self):
        return across(self.along, self.one[0], self.one[1])

    def holds(self, P):
        w = P[2]
        if across(self.along, P[0], P[1]) != self.offset() * w:
            return False
        # On one straight line the order of tuples is the order along it.
        spot = (P[0], P[1])
        return (self.one[0] * w, self.one[1] * w) <= spot and spot <= (self.two[0] * w, self.two[1] * w)

    def ends_at(self, P):
        return P == as_point(self.one) or P == as_point(self.two)

    # The offset is whole, so no divisor comes to the three numbers that they did not have.
    def image(self, P):
        x = P[0]
        y = P[1]
        w = P[2]
        c = self.offset() * w
        if self.along == 0:
            return (x, 2 * c - y, w)
        if self.along == 1:
            return (y - c, x + c, w)
        if self.along == 2:
            return (2 * c - x, y, w)
        return (c - y, c - x, w)


class Mirror(Wall):
    def behind(self, heading, count):
        return mirrored(heading, self.along)

    def turns(self):
        return True

    def every(self):
        return 1

    def word(self):
        return "mirror"


class Glass(Wall):
    def behind(self, heading, count):
        return heading

    def turns(self):
        return False

    def every(self):
        return 1

    def word(self):
        return "glass"


class Hole(Wall):
    def behind(self, heading, count):
        return None

    def turns(self):
        return False

    def every(self):
        return 1

    def word(self):
        return "hole"


class Door(Wall):
    def __init__(self, one, two, every=2):
        Wall.__init__(self, one, two)
        if every < 1 or every > GREATEST_EVERY:
            raise BadWall("a door's number is not one from 1 to 9")
        self.number = every

    def behind(self, heading, count):
        return heading if count % self.number == 0 else mirrored(heading, self.along)

    def turns(self):
        return True

    def every(self):
        return self.number

    def word(self):
        return "door"
