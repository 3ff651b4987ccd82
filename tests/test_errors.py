"""The interface of bouncewise/errors.py."""

import unittest

from bouncewise import errors

NAMES = (
    "NoPoint", "NoWay", "BadWall", "TooMany", "Overlap", "OnWall", "Over",
    "TooLong", "OutOfBox", "BadDrawing", "NoText", "NoName", "NoRow",
)
WITH_VALUES = {"Overlap": ("one", "other"), "OnWall": ("number",), "BadDrawing": ("row",)}


def refusals():
    return [getattr(errors, name) for name in NAMES]


class ClassesTest(unittest.TestCase):
    def test_room_error_stands_straight_under_value_error(self):
        self.assertEqual(errors.RoomError.__bases__, (ValueError,))

    def test_each_refusal_stands_straight_under_room_error(self):
        for refusal in refusals():
            with self.subTest(refusal=refusal.__name__):
                self.assertEqual(refusal.__bases__, (errors.RoomError,))

    def test_each_class_bears_its_name(self):
        for name in NAMES + ("RoomError",):
            self.assertEqual(getattr(errors, name).__name__, name)

    def test_no_refusal_is_another_one(self):
        for one in refusals():
            for other in refusals():
                if one.__name__ != other.__name__:
                    with self.subTest(one=one.__name__, other=other.__name__):
                        self.assertFalse(issubclass(one, other))

    def test_refusals_without_values_are_raised_with_and_without_words(self):
        for name in NAMES:
            if name not in WITH_VALUES:
                refusal = getattr(errors, name)
                for error in (refusal(), refusal("some words")):
                    with self.subTest(name=name), self.assertRaises(errors.RoomError):
                        raise error

    def test_room_error_itself_can_be_raised(self):
        with self.assertRaises(ValueError):
            raise errors.RoomError("some words")


class ValuesTest(unittest.TestCase):
    def check(self, refusal, numbers):
        error = refusal(*numbers)
        self.assertIsInstance(error, errors.RoomError)
        names = WITH_VALUES[refusal.__name__]
        self.assertEqual(tuple(getattr(error, name) for name in names), numbers)
        self.assertNotEqual(str(error), "")

    def test_overlap_tells_one_and_other(self):
        for numbers in ((0, 1), (3, 39), (2, 7)):
            self.check(errors.Overlap, numbers)

    def test_on_wall_tells_its_number(self):
        for number in (0, 1, 39):
            self.check(errors.OnWall, (number,))

    def test_bad_drawing_tells_its_row(self):
        for row in (0, 1, 80):
            self.check(errors.BadDrawing, (row,))

    def test_each_object_has_its_own_values(self):
        first = errors.Overlap(0, 1)
        second = errors.Overlap(2, 3)
        self.assertEqual((first.one, first.other, second.one, second.other), (0, 1, 2, 3))

    def test_values_are_there_when_it_is_taken_as_a_value_error(self):
        for refusal, numbers in ((errors.Overlap, (4, 5)), (errors.OnWall, (6,)), (errors.BadDrawing, (7,))):
            try:
                raise refusal(*numbers)
            except ValueError as error:
                names = WITH_VALUES[refusal.__name__]
                self.assertEqual(tuple(getattr(error, name) for name in names), numbers)


if __name__ == "__main__":
    unittest.main()
