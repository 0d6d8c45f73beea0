"""The refusals: the interface's errors.py, and what 0.2 says of them."""

import unittest

from matepoint import errors

PLAIN = ("BadRule", "BadOffer", "HasName", "NoName", "TooLate", "Full", "BadMany", "NoNumber", "BadBook", "NoLine")
ALL = PLAIN + ("NoText", "BadTime")


class ErrorsTest(unittest.TestCase):
    def test_mate_error_stands_straight_under_value_error(self):
        self.assertEqual(errors.MateError.__bases__, (ValueError,))

    def test_each_of_the_twelve_stands_straight_under_mate_error(self):
        self.assertEqual(len(set(ALL)), 12)
        for name in ALL:
            with self.subTest(name):
                self.assertEqual(getattr(errors, name).__bases__, (errors.MateError,))

    def test_none_stands_under_another_one(self):
        for name in ALL:
            for other in ALL:
                if name != other:
                    with self.subTest(f"{name} under {other}"):
                        self.assertFalse(issubclass(getattr(errors, name), getattr(errors, other)))

    def test_each_is_caught_as_any_refusal(self):
        for name in PLAIN:
            with self.subTest(name), self.assertRaises(errors.MateError):
                raise getattr(errors, name)("why")

    def test_no_text_has_at(self):
        for at in (0, 1, 400):
            with self.assertRaises(errors.MateError) as caught:
                raise errors.NoText(at)
            self.assertEqual(caught.exception.at, at)
        self.assertEqual(errors.NoText(at=3).at, 3)

    def test_bad_time_has_last(self):
        for last in (None, 0, 10 ** 9):
            with self.assertRaises(errors.MateError) as caught:
                raise errors.BadTime(last)
            self.assertEqual(caught.exception.last, last)
        self.assertEqual(errors.BadTime(last=3).last, 3)


if __name__ == "__main__":
    unittest.main()
