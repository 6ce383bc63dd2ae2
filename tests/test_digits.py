"""Points 6 and 7."""

import itertools
import unittest

from restfigures.digits import compared, digits, sign
from tests.helpers import GREAT_BASES, PAIR_BASES, SMALL_BASES, RefusalCase, drawn, ends, fitting, product_of, rests


def sign_by_words(number):
    return -1 if number < 0 else 1 if number > 0 else 0


class DigitsTest(RefusalCase):
    def assert_digits(self, base, number):
        """Point 6's own words: the bounds of each digit, and what they come to all together."""
        told = digits(base, rests(base, number))
        self.assertIs(type(told), list)
        self.assertEqual(len(told), len(base[0]))
        total = 0
        weight = 1
        for digit, divisor in zip(told, base[0]):
            self.assertIs(type(digit), int)
            self.assertIn(digit, range(divisor))
            total += digit * weight
            weight *= divisor
        self.assertEqual(total, number if number >= 0 else number + product_of(base[0]))

    def test_ordinary_figures(self):
        base = ((3, 5, 7), (11,))
        self.assert_told(digits(base, [0, 0, 0, 0]), [0, 0, 0])
        self.assert_told(digits(base, rests(base, 1)), [1, 0, 0])
        self.assert_told(digits(base, rests(base, 8)), [2, 2, 0])
        self.assert_told(digits(base, rests(base, 52)), [1, 2, 3])
        self.assert_told(digits(base, rests(base, -1)), [2, 4, 6])
        self.assert_told(digits(base, rests(base, -52)), [2, 2, 3])

    def test_the_order_of_the_divisors_counts(self):
        self.assert_told(digits(((7, 3, 5), ()), rests(((7, 3, 5), ()), 52)), [3, 1, 2])
        self.assert_told(digits(((5, 7, 3), (8,)), rests(((5, 7, 3), (8,)), 52)), [2, 3, 1])

    def test_every_number_of_a_small_base(self):
        for base in SMALL_BASES + PAIR_BASES:
            with self.subTest(base=base):
                for number in fitting(base):
                    self.assert_digits(base, number)

    def test_drawn_numbers_of_great_bases(self):
        for base in GREAT_BASES:
            with self.subTest(base=base):
                for number in drawn(base, 300):
                    self.assert_digits(base, number)


class SignTest(RefusalCase):
    def test_every_number_of_a_small_base(self):
        for base in SMALL_BASES + PAIR_BASES:
            with self.subTest(base=base):
                for number in fitting(base):
                    self.assert_told(sign(base, rests(base, number)), sign_by_words(number))

    def test_drawn_numbers_of_great_bases(self):
        for base in GREAT_BASES:
            with self.subTest(base=base):
                for number in drawn(base, 300):
                    self.assert_told(sign(base, rests(base, number)), sign_by_words(number))

    def test_the_greatest_of_an_even_span_is_above_nought(self):
        self.assert_told(sign(((2,), ()), [1]), 1)
        self.assert_told(sign(((10,), (11,)), [5, 5]), 1)
        self.assert_told(sign(((10,), (11,)), [6, 7]), -1)


class ComparedTest(RefusalCase):
    def assert_compared(self, base, one, other):
        told = compared(base, rests(base, one), rests(base, other))
        self.assert_told(told, sign_by_words(one - other))

    def test_every_pair_of_a_small_base(self):
        for base in PAIR_BASES:
            with self.subTest(base=base):
                for one, other in itertools.product(fitting(base), repeat=2):
                    self.assert_compared(base, one, other)

    def test_drawn_pairs_of_great_bases(self):
        for base in GREAT_BASES:
            with self.subTest(base=base):
                numbers = drawn(base, 60)
                for one, other in itertools.product(numbers, repeat=2):
                    self.assert_compared(base, one, other)

    def test_the_ends_and_their_neighbours(self):
        for base in SMALL_BASES + GREAT_BASES:
            low, high = ends(base)
            with self.subTest(base=base):
                self.assert_compared(base, low, high)
                self.assert_compared(base, high, low)
                self.assert_compared(base, low, low)
                self.assert_compared(base, high, high)
                self.assert_compared(base, high, high - 1)
                self.assert_compared(base, low, low + 1)

    def test_one_list_as_both(self):
        figure = [2, 3, 1, 8]
        self.assert_told(compared(((3, 5, 7), (11,)), figure, figure), 0)


class NamesTest(RefusalCase):
    def test_arguments_by_name(self):
        base = ((3, 5, 7), (11,))
        self.assert_told(digits(figure=[2, 3, 1, 8], base=base), [2, 2, 0])
        self.assert_told(sign(figure=[2, 3, 1, 8], base=base), 1)
        self.assert_told(compared(other=[2, 3, 1, 8], one=[0, 0, 0, 0], base=base), -1)


if __name__ == "__main__":
    unittest.main()
