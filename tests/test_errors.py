import unittest

from lastword import errors

REFUSALS = ["NoSlot", "NoGuard", "NoBox", "NoField", "NotThere", "AlreadyThere", "Crowded", "NoNote"]


class Classes(unittest.TestCase):
    def test_house_error_stands_straight_under_value_error(self):
        self.assertEqual(errors.HouseError.__name__, "HouseError")
        self.assertEqual(errors.HouseError.__bases__, (ValueError,))

    def test_each_stands_under_its_name_straight_under_house_error(self):
        for name in REFUSALS:
            with self.subTest(name):
                self.assertEqual(getattr(errors, name).__name__, name)
                self.assertEqual(getattr(errors, name).__bases__, (errors.HouseError,))

    def test_none_is_another_or_beneath_another(self):
        for name in REFUSALS:
            for other in REFUSALS:
                if name != other:
                    with self.subTest(name=name, other=other):
                        self.assertFalse(issubclass(getattr(errors, name), getattr(errors, other)))

    def test_each_can_be_raised_and_taken_as_house_error_and_value_error(self):
        for name in REFUSALS:
            for taken in (errors.HouseError, ValueError):
                with self.subTest(name=name, taken=taken), self.assertRaises(taken):
                    raise getattr(errors, name)("some words")
