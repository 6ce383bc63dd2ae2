"""Points 4 and 5, and point 1 as far as figures go."""

import itertools
import unittest

from restfigures.bases import base_of, highest, lowest
from restfigures.errors import BadFigure, TooGreat, Wrong
from restfigures.figures import figure_of, is_right, number_of
from tests.helpers import GREATEST_KEPT, GREATEST_SPARE, SMALL_BASES, RefusalCase, fitting

FAR = (10 ** 20, 10 ** 40, 10 ** 59, 10 ** 60 - 1)


def greatest_bases():
    return (
        base_of(GREATEST_KEPT, GREATEST_SPARE),
        base_of(GREATEST_KEPT, []),
        base_of([10 ** 6] + GREATEST_KEPT[:5], []),
        base_of([999999], [10 ** 6]),
    )


def rest_by_steps(number, divisor):
    """The rest as point 1 tells it: from 0 to divisor - 1, a multiple of the divisor below the number."""
    while number < 0:
        number += divisor
    while number >= divisor:
        number -= divisor
    return number


class FigureOfTest(RefusalCase):
    def test_ordinary_numbers(self):
        base = base_of([3, 5, 7], [11])
        self.assertEqual(figure_of(base, 0), [0, 0, 0, 0])
        self.assertEqual(figure_of(base, 1), [1, 1, 1, 1])
        self.assertEqual(figure_of(base, 8), [2, 3, 1, 8])
        self.assertEqual(figure_of(base, 52), [1, 2, 3, 8])

    def test_numbers_below_nought(self):
        base = base_of([3, 5, 7], [11])
        self.assertEqual(figure_of(base, -1), [2, 4, 6, 10])
        self.assertEqual(figure_of(base, -3), [0, 2, 4, 8])
        self.assertEqual(figure_of(base, -52), [2, 3, 4, 3])

    def test_rests_in_the_order_of_the_divisors(self):
        base = base_of([7, 3, 5], [13, 11])
        self.assertEqual(figure_of(base, 20), [6, 2, 0, 7, 9])

    def test_arguments_by_name(self):
        base = base_of([3], [])
        self.assertEqual(figure_of(number=-1, base=base), [2])
        self.assertEqual(number_of(figure=[2], base=base), -1)
        self.assertIs(is_right(figure=[2], base=base), True)

    def test_each_rest_as_told(self):
        for base in (((3, 5, 7), (11,)), ((5, 2), (9, 7)), ((10,), (11,))):
            for number in fitting(base):
                with self.subTest(base=base, number=number):
                    rests = [rest_by_steps(number, divisor) for divisor in base[0] + base[1]]
                    self.assertEqual(figure_of(base, number), rests)

    def test_the_ends_fit_and_one_beyond_does_not(self):
        for base in SMALL_BASES + greatest_bases():
            with self.subTest(base=base):
                self.assertEqual(number_of(base, figure_of(base, lowest(base))), lowest(base))
                self.assertEqual(number_of(base, figure_of(base, highest(base))), highest(base))
                self.assert_refused(TooGreat, figure_of, base, lowest(base) - 1)
                self.assert_refused(TooGreat, figure_of, base, highest(base) + 1)

    def test_an_even_spans_ends(self):
        base = base_of([5, 2, 3], [7])
        self.assertEqual(figure_of(base, 15), [0, 1, 0, 1])
        self.assertEqual(figure_of(base, -14), [1, 0, 1, 0])
        self.assert_refused(TooGreat, figure_of, base, 16)
        self.assert_refused(TooGreat, figure_of, base, -15)

    def test_far_numbers_do_not_fit(self):
        for base in SMALL_BASES + greatest_bases():
            for number in (FAR if len(base[0]) < 6 else FAR[1:]):
                with self.subTest(base=base, number=number):
                    self.assert_refused(TooGreat, figure_of, base, number)
                    self.assert_refused(TooGreat, figure_of, base, -number)

    def test_what_fits_the_spare_divisors_too_does_not_fit(self):
        self.assert_refused(TooGreat, figure_of, base_of([3, 5], [7, 11]), 15)
        self.assert_refused(TooGreat, figure_of, base_of([3, 5], [7, 11]), 8)


class NumberOfTest(RefusalCase):
    def test_ordinary_figures(self):
        base = base_of([3, 5, 7], [11])
        self.assertEqual(number_of(base, [0, 0, 0, 0]), 0)
        self.assertEqual(number_of(base, [2, 3, 1, 8]), 8)
        self.assertEqual(number_of(base, [2, 4, 6, 10]), -1)
        self.assertEqual(number_of(base, [2, 3, 4, 3]), -52)

    def test_every_number_of_a_small_base_comes_out_again(self):
        for base in SMALL_BASES:
            with self.subTest(base=base):
                for number in fitting(base):
                    figure = figure_of(base, number)
                    self.assertEqual(number_of(base, figure), number)
                    self.assertIs(is_right(base, figure), True)

    def test_numbers_of_the_greatest_bases_come_out_again(self):
        for base in greatest_bases():
            numbers = fitting(base)
            for number in list(numbers[::numbers[-1] // 97]) + [-2, -1, 0, 1, 2]:
                with self.subTest(base=base, number=number):
                    figure = figure_of(base, number)
                    self.assertEqual(figure, [number % divisor for divisor in base[0] + base[1]])
                    self.assertEqual(number_of(base, figure), number)
                    self.assertIs(is_right(base, figure), True)

    def test_every_figure_of_a_small_base_is_right_or_wrong(self):
        for base in (((2,), ()), ((2, 3), (5, 7)), ((5, 2), (9, 7)), ((3, 5, 7), ()), ((7, 3, 5), (11,))):
            divisors = base[0] + base[1]
            numbers = fitting(base)
            right = {tuple(number % divisor for divisor in divisors): number for number in numbers}
            for rests in itertools.product(*[range(divisor) for divisor in divisors]):
                with self.subTest(base=base, rests=rests):
                    self.assertIs(is_right(base, list(rests)), rests in right)
                    if rests in right:
                        self.assertEqual(number_of(base, list(rests)), right[rests])
                    else:
                        self.assert_refused(Wrong, number_of, base, list(rests))

    def test_a_number_and_its_span_have_unlike_figures(self):
        base = base_of([3, 5, 7], [11])
        for number in (-53, -105, 53, 104, 105, 1000):
            with self.subTest(number=number):
                figure = [number % divisor for divisor in (3, 5, 7, 11)]
                self.assert_refused(Wrong, number_of, base, figure)
                self.assertIs(is_right(base, figure), False)

    def test_one_wrong_rest_at_any_place(self):
        for base in (base_of(GREATEST_KEPT, GREATEST_SPARE), base_of([7, 3, 5, 2], [17, 11, 19, 13])):
            for number in (lowest(base), -1, 0, 1, highest(base)):
                for place, divisor in enumerate(base[0] + base[1]):
                    figure = figure_of(base, number)
                    figure[place] = (figure[place] + 1) % divisor
                    with self.subTest(base=base, number=number, place=place):
                        self.assertIs(is_right(base, figure), False)
                        self.assert_refused(Wrong, number_of, base, figure)


class BadFigureTest(RefusalCase):
    def assert_no_figure(self, base, figure):
        with self.subTest(base=base, figure=figure[:12]):
            self.assert_refused(BadFigure, number_of, base, figure)
            self.assert_refused(BadFigure, is_right, base, figure)

    def test_longer_and_shorter_lists(self):
        for base in SMALL_BASES + greatest_bases():
            figure = figure_of(base, 1)
            self.assert_no_figure(base, [])
            self.assert_no_figure(base, figure[:-1])
            self.assert_no_figure(base, figure[1:])
            self.assert_no_figure(base, figure + [0])
            self.assert_no_figure(base, [0] + figure)
            self.assert_no_figure(base, figure + figure)

    def test_the_kept_rests_alone(self):
        self.assert_no_figure(base_of([3, 5, 7], [11]), [1, 1, 1])

    def test_lists_of_very_many(self):
        self.assert_no_figure(base_of([3, 5, 7], [11]), [0] * 100000)

    def test_rests_out_of_bounds_at_any_place(self):
        for base in SMALL_BASES + greatest_bases():
            for place, divisor in enumerate(base[0] + base[1]):
                for rest in (divisor, divisor + 1, 2 * divisor, -1, -divisor, 10 ** 60 - 1, 1 - 10 ** 60):
                    figure = figure_of(base, 0)
                    figure[place] = rest
                    self.assert_no_figure(base, figure)

    def test_the_greatest_rest_is_one(self):
        for base in SMALL_BASES:
            figure = [divisor - 1 for divisor in base[0] + base[1]]
            if lowest(base) <= -1:
                with self.subTest(base=base):
                    self.assertEqual(number_of(base, figure), -1)
                    self.assertIs(is_right(base, figure), True)

    def test_bad_figure_ahead_of_wrong(self):
        base = base_of([3, 5, 7], [11])
        self.assert_refused(Wrong, number_of, base, [1, 0, 0, 0])
        self.assert_no_figure(base, [1, 0, 0, 11])
        self.assert_no_figure(base, [1, 0, -1, 0])
        self.assert_no_figure(base, [3, 0, 0, 1])
        self.assert_no_figure(base, [1, 0, 0, 0, 0])


class OwnListsTest(unittest.TestCase):
    def test_the_figure_handed_in_stays(self):
        base = base_of([3, 5, 7], [11])
        figure = [2, 4, 6, 10]
        number_of(base, figure)
        is_right(base, figure)
        self.assertEqual(figure, [2, 4, 6, 10])
        self.assertEqual(base, ((3, 5, 7), (11,)))

    def test_the_figure_told_is_a_list_of_its_own(self):
        base = base_of([3, 5, 7], [11])
        first = figure_of(base, 8)
        second = figure_of(base, 8)
        self.assertIs(type(first), list)
        self.assertIsNot(first, second)
        first[0] = 0
        first.append(99)
        self.assertEqual(second, [2, 3, 1, 8])
        self.assertEqual(figure_of(base, 8), [2, 3, 1, 8])
        self.assertEqual(number_of(base, second), 8)

    def test_a_figure_changed_by_the_asker_is_looked_at_anew(self):
        base = base_of([3, 5, 7], [11])
        figure = figure_of(base, 8)
        self.assertIs(is_right(base, figure), True)
        figure[3] = 9
        self.assertIs(is_right(base, figure), False)
        figure[3] = 8
        self.assertEqual(number_of(base, figure), 8)


if __name__ == "__main__":
    unittest.main()
