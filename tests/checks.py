"""What several tests need: great numbers, walls along each line, a second reckoning in fractions, and checks."""

import inspect
from fractions import Fraction
from math import gcd

from bouncewise import errors
from bouncewise.rooms import Room
from bouncewise.walls import Door, Glass, Hole, Mirror

# The greatest number of a hundred and twenty figures.
GREAT = 10 ** 120 - 1


# For each line, two ends of a wall along it, the lesser one first; none of these goes through (0, 0).
ENDS = {0: ((-1, 2), (4, 2)), 1: ((-2, 1), (2, 5)), 2: ((3, -2), (3, 1)), 3: ((-1, 5), (3, 1))}


def box_of(wide, high):
    return Room([
        Mirror((0, 0), (wide, 0)), Mirror((0, 0), (0, high)), Mirror((0, high), (wide, high)),
        Mirror((wide, 0), (wide, high)),
    ])


BOX = box_of(4, 3)

# From (1, 1) with heading (1, 1), in BOX: five hits, then a corner.
FIVE = [
    (2, (2, 1), (3, 3, 1), (1, -1)),
    (3, (3, 1), (4, 2, 1), (-1, -1)),
    (0, (5, 1), (2, 0, 1), (-1, 1)),
    (1, (7, 1), (0, 2, 1), (1, 1)),
    (2, (8, 1), (1, 3, 1), (1, -1)),
]
BEHIND_FIVE = ("corner", (11, 1), (4, 0, 1))

# Rooms of all kinds and lines: closed, with a way out, of slanting walls, and open.
ROOMS = (
    BOX,
    Room([Mirror((0, 0), (6, 0)), Door((6, 4), (6, 0), 3), Mirror((0, 4), (6, 4)), Glass((0, 0), (0, 4)),
          Mirror((2, 2), (1, 1)), Door((3, 3), (4, 2)), Glass((3, 0), (3, 2)), Hole((-2, 1), (-2, 3))]),
    Room([Mirror((0, 3), (3, 6)), Mirror((3, 6), (6, 3)), Door((3, 0), (6, 3), 2), Mirror((3, 0), (0, 3)),
          Glass((1, 3), (5, 3)), Hole((3, 4), (3, 5)), Mirror((-9, -9), (15, -9))]),
    Room([Mirror((0, 0), (5, 0)), Glass((1, 2), (4, 2)), Door((0, 4), (4, 4), 1), Mirror((6, 1), (6, 5)),
          Hole((-1, 1), (-1, 2)), Door((2, -2), (2, 6), 4)]),
)


def place(P):
    return Fraction(P[0], P[2]), Fraction(P[1], P[2])


def point_at(x, y):
    w = x.denominator * y.denominator // gcd(x.denominator, y.denominator)
    return int(x * w), int(y * w), w


# By the wall's two numbers as shares: P + t * heading = one + s * (two - one), s from 0 to 1.
def time_reckoned(wall, P, heading):
    x, y = place(P)
    (left, low), (a, b) = wall.one, heading
    right, up = wall.two[0] - left, wall.two[1] - low
    turn = b * right - a * up
    if turn == 0:
        if right * (y - low) != up * (x - left):
            return None
        far = a * a + b * b
        ends = [((end[0] - x) * a + (end[1] - y) * b) / far for end in (wall.one, wall.two)]
        return min([t for t in ends if t > 0], default=None)
    t = ((low - y) * right - (left - x) * up) / turn
    s = ((low - y) * a - (left - x) * b) / turn
    return t if t > 0 and 0 <= s <= 1 else None


def told_of(t):
    return None if t is None else (t.numerator, t.denominator)


def lies_on(wall, x, y):
    (left, low), (right, top) = wall.one, wall.two
    straight = (right - left) * (y - low) == (top - low) * (x - left)
    return straight and left <= x <= right and min(low, top) <= y <= max(low, top)


# What goes along the wall stays, the rest is taken the other way.
def way_mirrored(wall, a, b):
    right, up = wall.two[0] - wall.one[0], wall.two[1] - wall.one[1]
    share = Fraction(2 * (a * right + b * up)) / (right * right + up * up)
    return share * right - a, share * up - b


def image_reckoned(wall, P):
    x, y = place(P)
    right, up = way_mirrored(wall, x - wall.one[0], y - wall.one[1])
    return point_at(wall.one[0] + right, wall.one[1] + up)


def picture_reckoned(walls, row, P):
    for number in row[::-1]:
        P = image_reckoned(walls[number], P)
    return P


def first_reckoned(walls, P, heading):
    times = [time_reckoned(wall, P, heading) for wall in walls]
    least = min([t for t in times if t is not None], default=None)
    if least is None:
        return None
    x, y = place(P)
    x, y = x + heading[0] * least, y + heading[1] * least
    return least, point_at(x, y), [number for number, wall in enumerate(walls) if lies_on(wall, x, y)]


def lets_by(wall, count):
    return wall.word() == "glass" or wall.word() == "door" and count % wall.every() == 0


# Told like flown, but that the outcome is told where the flight has just so many hits, too.
def flight_reckoned(walls, P, heading, most):
    hits, past = [], Fraction(0)
    while True:
        met = first_reckoned(walls, P, heading)
        if met is None:
            return hits, ("away",)
        past, P, numbers = past + met[0], met[1], met[2]
        wall, number = walls[numbers[0]], numbers[0]
        if len(numbers) > 1 or P in ((*wall.one, 1), (*wall.two, 1)):
            return hits, ("corner", told_of(past), P)
        if wall.word() == "hole":
            return hits, ("fell", number, told_of(past), P)
        if len(hits) == most:
            return hits, None
        if not lets_by(wall, 1 + len([hit for hit in hits if hit[0] == number])):
            a, b = way_mirrored(wall, *heading)
            heading = int(a), int(b)
        hits.append((number, told_of(past), P, heading))


# Where it is at time T who flies on from the last of these hits, or from the begin.
def standing_at(begin, heading, hits, T):
    point, since = begin, Fraction(0)
    if hits:
        point, heading, since = hits[-1][2], hits[-1][3], Fraction(*hits[-1][1])
    x, y = place(point)
    return point_at(x + heading[0] * (T - since), y + heading[1] * (T - since))


def all_refusals():
    return [
        thing for thing in vars(errors).values()
        if inspect.isclass(thing) and thing not in (errors.RoomError, ValueError)
    ]


def check_whole_numbers(case, told, length):
    case.assertIs(type(told), tuple)
    case.assertEqual([type(number) for number in told], [int] * length)


def check_refused(case, refusal, asked, *arguments):
    with case.assertRaises(refusal) as caught:
        asked(*arguments)
    case.assertIsInstance(caught.exception, errors.RoomError)
    case.assertIsInstance(caught.exception, ValueError)
    for other in all_refusals():
        if other.__name__ != refusal.__name__:
            case.assertNotIsInstance(caught.exception, other)


def check_on_wall(case, number, asked, *arguments):
    check_refused(case, errors.OnWall, asked, *arguments)
    with case.assertRaises(errors.OnWall) as caught:
        asked(*arguments)
    case.assertEqual(caught.exception.number, number)
    case.assertIs(type(caught.exception.number), int)


def check_hits(case, told, hits):
    case.assertEqual(told, hits)
    case.assertIs(type(told), list)
    for hit in told:
        case.assertIs(type(hit), tuple)
        case.assertIs(type(hit[0]), int)
        for part, length in zip(hit[1:], (2, 3, 2), strict=True):
            check_whole_numbers(case, part, length)


def check_arguments(case, asked, *names, **defaults):
    parameters = inspect.signature(asked).parameters.values()
    case.assertEqual([parameter.name for parameter in parameters], list(names) + list(defaults))
    for parameter in parameters:
        case.assertEqual(parameter.default, defaults.get(parameter.name, inspect.Parameter.empty))
        case.assertEqual(parameter.kind, inspect.Parameter.POSITIONAL_OR_KEYWORD)
