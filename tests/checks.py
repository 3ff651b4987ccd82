"""What several tests need: great numbers, walls along each line, and checks of kinds, refusals and arguments."""

import inspect
from fractions import Fraction
from math import gcd

from bouncewise import errors

# The greatest number of a hundred and twenty figures.
GREAT = 10 ** 120 - 1


# For each line, two ends of a wall along it, the lesser one first; none of these goes through (0, 0).
ENDS = {0: ((-1, 2), (4, 2)), 1: ((-2, 1), (2, 5)), 2: ((3, -2), (3, 1)), 3: ((-1, 5), (3, 1))}


def place(P):
    return Fraction(P[0], P[2]), Fraction(P[1], P[2])


def point_at(x, y):
    w = x.denominator * y.denominator // gcd(x.denominator, y.denominator)
    return int(x * w), int(y * w), w


def all_refusals():
    return [
        thing for thing in vars(errors).values()
        if inspect.isclass(thing) and thing not in (errors.RoomError, ValueError)
    ]


def check_whole_numbers(case, told, length):
    case.assertIs(type(told), tuple)
    case.assertEqual([type(number) for number in told], [int] * length)


def check_refused(case, refusal, asked, *arguments):
    with case.assertRaises(refusal) as caught:
        asked(*arguments)
    case.assertIsInstance(caught.exception, errors.RoomError)
    case.assertIsInstance(caught.exception, ValueError)
    for other in all_refusals():
        if other.__name__ != refusal.__name__:
            case.assertNotIsInstance(caught.exception, other)


def check_arguments(case, asked, *names, **defaults):
    parameters = inspect.signature(asked).parameters.values()
    case.assertEqual([parameter.name for parameter in parameters], list(names) + list(defaults))
    for parameter in parameters:
        case.assertEqual(parameter.default, defaults.get(parameter.name, inspect.Parameter.empty))
        case.assertEqual(parameter.kind, inspect.Parameter.POSITIONAL_OR_KEYWORD)
