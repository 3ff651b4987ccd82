"""What several tests need: great numbers, and checks of kinds, refusals and arguments."""

import inspect

from bouncewise import errors

# The greatest number of a hundred and twenty figures.
GREAT = 10 ** 120 - 1


def all_refusals():
    return [
        thing for thing in vars(errors).values()
        if inspect.isclass(thing) and thing not in (errors.RoomError, ValueError)
    ]


def check_whole_numbers(case, told, length):
    case.assertIs(type(told), tuple)
    case.assertEqual([type(number) for number in told], [int] * length)


def check_refused(case, refusal, asked, *arguments):
    with case.assertRaises(refusal) as caught:
        asked(*arguments)
    case.assertIsInstance(caught.exception, errors.RoomError)
    case.assertIsInstance(caught.exception, ValueError)
    for other in all_refusals():
        if other.__name__ != refusal.__name__:
            case.assertNotIsInstance(caught.exception, other)


def check_arguments(case, asked, *names):
    parameters = inspect.signature(asked).parameters.values()
    case.assertEqual([parameter.name for parameter in parameters], list(names))
    for parameter in parameters:
        case.assertIs(parameter.default, inspect.Parameter.empty)
        case.assertEqual(parameter.kind, inspect.Parameter.POSITIONAL_OR_KEYWORD)
