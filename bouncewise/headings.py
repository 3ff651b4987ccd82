"""Headings, and the four lines: 0 level, 1 rising, 2 upright, 3 falling."""

from bouncewise.errors import NoWay
from bouncewise.points import divisor


def heading_of(a, b):
    share = divisor(a, b)
    if share == 0:
        raise NoWay("a heading of 0 and 0 leads nowhere")
    return (a // share, b // share)


def line_of(heading):
    a = heading[0]
    b = heading[1]
    if b == 0:
        return 0
    if a == b:
        return 1
    if a == 0:
        return 2
    if a == -b:
        return 3
    return None


def mirrored(heading, line):
    a = heading[0]
    b = heading[1]
    if line == 0:
        return (a, -b)
    if line == 1:
        return (b, a)
    if line == 2:
        return (-a, b)
    return (-b, -a)


def opposite(heading):
    return (-heading[0], -heading[1])


# Alike for all points of one straight line along the line, unlike for those of two: so it tells such straight lines
# apart. Of a heading's two numbers it is how much this grows in one unit of time.
def across(line, x, y):
    if line == 0:
        return y
    if line == 1:
        return y - x
    if line == 2:
        return x
    return x + y
