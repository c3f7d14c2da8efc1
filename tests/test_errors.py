"""The refusals' classes (4, the interface)."""

import unittest

from snapshelf import errors

NAMES = (
    "NoName NoView NoDeed NoThing Taken TooMany TooDeep Within NoLeaf NoRoom NoHouse NoSnap NoEntry "
    "Full Lost NoDisk NoSent Other NotOpen NoWord"
).split()


class ErrorsTest(unittest.TestCase):

    def test_shelf_error_is_a_value_error(self):
        self.assertEqual(errors.ShelfError.__bases__, (ValueError,))
        self.assertIsInstance(errors.ShelfError(), ValueError)

    def test_each_is_made_without_arguments(self):
        for name in NAMES:
            made = getattr(errors, name)()
            self.assertIsInstance(made, errors.ShelfError, name)
            self.assertIsInstance(made, ValueError, name)

    def test_none_is_under_another(self):
        for name in NAMES:
            for other in NAMES:
                under = issubclass(getattr(errors, name), getattr(errors, other))
                self.assertEqual(under, name == other, (name, other))

    def test_shelf_error_is_none_of_them(self):
        for name in NAMES:
            self.assertFalse(issubclass(errors.ShelfError, getattr(errors, name)))


if __name__ == "__main__":
    unittest.main()
