"""Points and times as whole numbers without a common divisor, so that like ones are equal tuples."""

from bouncewise.errors import NoPoint


def divisor(one, other):
    left = abs(one)
    right = abs(other)
    while right != 0:
        rest = left % right
        left = right
        right = rest
    return left


def point_of(x, y, w):
    if w == 0:
        raise NoPoint("the third number of a point is 0")
    share = with_sign_of(w, divisor(divisor(x, y), w))
    return (x // share, y // share, w // share)


def as_point(whole):
    return (whole[0], whole[1], 1)


def time_of(top, bottom):
    if bottom == 0:
        raise NoPoint("the bottom of a time is 0")
    share = with_sign_of(bottom, divisor(top, bottom))
    return (top // share, bottom // share)


# Dividing by a number with the sign of the last one leaves that last one above 0.
def with_sign_of(last, share):
    return -share if last < 0 else share


# Both bottoms are above 0, so multiplying by them keeps the order.
def sooner(one, other):
    return one[0] * other[1] < other[0] * one[1]


def added(one, other):
    return time_of(one[0] * other[1] + other[0] * one[1], one[1] * other[1])


# From the one to the other.
def time_between(one, other):
    return added(other, (-one[0], one[1]))


def spot_at(P, heading, t):
    top = t[0] * P[2]
    bottom = t[1]
    return point_of(P[0] * bottom + heading[0] * top, P[1] * bottom + heading[1] * top, P[2] * bottom)
