"""The classes of errors."""

import unittest

from flatroom import errors

NAMES = ["BadRoom", "BadRow", "BadFlat", "BadWidth", "BadCorners", "BadNumber", "BadTable", "BadChain", "NotInside"]


class Errors(unittest.TestCase):
    def test_flat_error_is_straight_under_value_error(self):
        self.assertEqual(errors.FlatError.__bases__, (ValueError,))

    def test_each_other_one_is_straight_under_flat_error(self):
        for name in NAMES:
            self.assertEqual(getattr(errors, name).__bases__, (errors.FlatError,), name)

    def test_each_has_its_own_class_under_its_own_name(self):
        self.assertEqual([getattr(errors, name).__name__ for name in NAMES], NAMES)
        self.assertEqual(len({getattr(errors, name) for name in NAMES}), len(NAMES))

    def test_each_can_be_raised_with_words_and_caught_as_flat_error(self):
        for name in NAMES:
            with self.assertRaises(errors.FlatError):
                raise getattr(errors, name)("words")


if __name__ == "__main__":
    unittest.main()
