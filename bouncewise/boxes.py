"""Flights in a box of four mirrors, told by numbers however great: to the right and up, each number goes by itself."""

from bouncewise.errors import OutOfBox
from bouncewise.points import divisor, spot_at, time_of


# Where a side is below 1, no number lies between 0 and it.
def check_inside(wide, high, P):
    for number, side in zip(P, (wide, high)):
        if number <= 0 or number >= side * P[2]:
            raise OutOfBox("the point does not lie strictly inside the box")


# Where a number is, and its speed, that would be at the far place if no mirror stood at 0 and at the side.
def turned(far, side, speed):
    place = far % (2 * side)
    if place == 0:
        return (place, abs(speed))
    if place == side:
        return (place, -abs(speed))
    if place < side:
        return (place, speed)
    return (2 * side - place, -speed)


# The sides are whole, so no divisor comes to the three numbers that they did not have.
def box_at(wide, high, P, heading, t):
    check_inside(wide, high, P)
    far = spot_at(P, heading, t)
    w = far[2]
    right = turned(far[0], wide * w, heading[0])
    up = turned(far[1], high * w, heading[1])
    return ((right[0], up[0], w), (right[1], up[1]))


def share_of(wide, high, heading):
    return divisor(wide * heading[1], high * heading[0])


# The number that, times the first one, leaves the rest 1 by the other; the two have no divisor in common but 1.
def inverse(number, other):
    left = other
    right = number % other
    times_left = 0
    times_right = 1
    while right != 0:
        whole = left // right
        rest = left - whole * right
        times_rest = times_left - whole * times_right
        left = right
        right = rest
        times_left = times_right
        times_right = times_rest
    return times_left


# Unfolded, the corners lie m widths to the right and n heights up, and those on the way have
# m * (wide * b / g) - n * (high * a / g) = multiple. One such m, whatever its n, tells the time of one corner, perhaps
# long past or far ahead; since they come equally far apart, its rest by that is the time of the first.
def box_corner(wide, high, P, heading):
    check_inside(wide, high, P)
    a = heading[0]
    b = heading[1]
    w = P[2]
    g = share_of(wide, high, heading)
    aside = b * P[0] - a * P[1]
    if aside % (g * w) != 0:
        return None
    # Along a side no corner lies on the way, so a is not 0 here.
    multiple = aside // (g * w)
    m = multiple * inverse(wide * b // g, abs(high * a // g))
    some = time_of(m * wide * w - P[0], a * w)
    apart = wide * high // g
    return time_of(some[0] % (apart * some[1]), some[1])


def box_round(wide, high, P, heading):
    check_inside(wide, high, P)
    g = share_of(wide, high, heading)
    hits = 2 * (high * abs(heading[0]) + wide * abs(heading[1])) // g
    return (2 * wide * high // g, hits)
