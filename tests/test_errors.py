"""The errors: each straight under PostError, none under another."""

import unittest

from ringpost import errors

NAMES = ["BadBounds", "BadRing", "BadTexts", "BadStep", "NotNow", "NoLetter", "Safe", "NoLine"]


class TestErrors(unittest.TestCase):
    def test_post_error_is_straight_under_value_error(self):
        self.assertEqual(errors.PostError.__bases__, (ValueError,))

    def test_each_is_straight_under_post_error(self):
        for name in NAMES:
            with self.subTest(name):
                self.assertEqual(getattr(errors, name).__bases__, (errors.PostError,))
                self.assertTrue(issubclass(getattr(errors, name), ValueError))

    def test_none_is_another(self):
        for name in NAMES:
            for other in NAMES:
                with self.subTest(name=name, other=other):
                    under = issubclass(getattr(errors, name), getattr(errors, other))
                    self.assertEqual(under, name == other)

    def test_each_has_its_name(self):
        for name in ["PostError"] + NAMES:
            self.assertEqual(getattr(errors, name).__name__, name)
            self.assertEqual(getattr(errors, name).__module__, "ringpost.errors")


if __name__ == "__main__":
    unittest.main()
