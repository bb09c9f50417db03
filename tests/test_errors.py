"""The error classes."""

import unittest

from quirehand import errors
from helper import TEN


class ErrorTest(unittest.TestCase):
    def test_the_names(self):
        names = [
            "BadFace", "BadRules", "BadBook", "BadWord", "BadBlocks",
            "BadText", "BadBreaks", "TooWide", "NoPlace", "NoNote",
        ]
        self.assertEqual([kind.__name__ for kind in TEN], names)
        self.assertEqual(errors.SetError.__name__, "SetError")

    def test_set_error_stands_straight_under_value_error(self):
        self.assertEqual(errors.SetError.__bases__, (ValueError,))

    def test_each_stands_straight_under_set_error(self):
        for kind in TEN:
            with self.subTest(kind=kind.__name__):
                self.assertEqual(kind.__bases__, (errors.SetError,))

    def test_each_is_none_of_the_nine_others(self):
        for kind in TEN:
            error = kind(0)
            self.assertIsInstance(error, errors.SetError)
            self.assertIsInstance(error, ValueError)
            for other in TEN:
                with self.subTest(kind=kind.__name__, other=other.__name__):
                    self.assertEqual(isinstance(error, other), other is kind)

    def test_each_can_be_raised_and_taken_as_set_error(self):
        for kind in TEN:
            with self.subTest(kind=kind.__name__):
                with self.assertRaises(errors.SetError):
                    raise kind(0)

    def test_bad_text_tells_its_row(self):
        self.assertEqual(errors.BadText(3).row, 3)
        self.assertEqual(errors.BadText(0).row, 0)

    def test_each_bad_text_has_a_row_of_its_own(self):
        first = errors.BadText(7)
        errors.BadText(8)
        self.assertEqual(first.row, 7)
        self.assertFalse(hasattr(errors.BadText, "row"))

    def test_the_row_of_a_raised_bad_text(self):
        with self.assertRaises(errors.BadText) as taken:
            raise errors.BadText(12)
        self.assertEqual(taken.exception.row, 12)


if __name__ == "__main__":
    unittest.main()
