"""The refusals of the interface."""

import unittest

from restfigures import errors
from restfigures.errors import BadText, RestError, RowTooGreat

NAMES = (
    "BadBase",
    "TooGreat",
    "BadFigure",
    "Wrong",
    "BadDivisor",
    "BadPlace",
    "Unlike",
    "BadInput",
    "RowTooGreat",
    "BadText",
)


class ErrorsTest(unittest.TestCase):
    def test_rest_error_stands_under_value_error(self):
        self.assertEqual(RestError.__bases__, (ValueError,))

    def test_each_refusal_stands_straight_under_rest_error(self):
        for name in NAMES:
            with self.subTest(name=name):
                self.assertEqual(getattr(errors, name).__bases__, (RestError,))

    def test_none_of_the_ten_is_another_one(self):
        refusals = [getattr(errors, name) for name in NAMES]
        for one in refusals:
            self.assertEqual([other for other in refusals if issubclass(one, other)], [one])

    def test_the_last_two_bear_their_row(self):
        for refusal in (RowTooGreat, BadText):
            for row in (1, 7, 61):
                with self.subTest(refusal=refusal, row=row):
                    self.assertEqual(refusal(row).row, row)
                    self.assertEqual(refusal(row=row).row, row)

    def test_the_row_is_each_objects_own(self):
        first = BadText(1)
        second = BadText(2)
        self.assertEqual((first.row, second.row), (1, 2))

    def test_the_row_is_there_when_caught(self):
        for refusal in (RowTooGreat, BadText):
            with self.assertRaises(RestError) as caught:
                raise refusal(5)
            self.assertIs(type(caught.exception), refusal)
            self.assertEqual(caught.exception.row, 5)


if __name__ == "__main__":
    unittest.main()
