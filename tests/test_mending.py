"""Points 11 and 12."""

import itertools
import random
import unittest

from restfigures.errors import BadFigure
from restfigures.mending import mended
from tests.helpers import (
    GREAT_BASES, GREATEST_KEPT, GREATEST_SPARE, SMALL_BASES, RefusalCase, drawn, ends, fits_by_words, fitting,
    made_wrong, product_of, rests,
)

# Of none to four spare divisors, odd and even spans: few enough figures that each of them can be walked through.
ALL_FIGURES = (
    ((2,), ()),
    ((5, 3), ()),
    ((3, 4), (5,)),
    ((5, 2), (7,)),
    ((2,), (3, 5)),
    ((3, 5), (8, 7)),
    ((5, 2), (9, 7)),
    ((4,), (11, 9, 5)),
    ((3, 2), (11, 5, 7)),
    ((2,), (9, 5, 7, 11)),
    ((3,), (4, 11, 7, 5)),
    ((3, 2), (7, 5, 13, 11)),
)

GREATEST = tuple((tuple(GREATEST_KEPT), tuple(GREATEST_SPARE[:count])) for count in range(5))


def unlike(one, other):
    return [place for place in range(len(one)) if one[place] != other[place]]


def mended_by_a_walk(base, figure):
    """Point 11's own words, by a walk over all numbers that fit."""
    most = len(base[1]) // 2
    near = [number for number in fitting(base) if len(unlike(rests(base, number), figure)) <= most]
    if not near:
        return ("lost", None, [])
    number, = near
    places = unlike(rests(base, number), figure)
    return ("mended" if places else "right", number, places)


class MendedCase(RefusalCase):
    def assert_mended(self, base, figure, want):
        given = list(figure)
        self.assert_told(mended(base, given), want)
        self.assertEqual(given, figure)

    def assert_point_twelve(self, base, number, places, figure):
        """What point 12 says of a number's figure made wrong at these places."""
        spare = len(base[1])
        word, told, told_places = mended(base, figure)
        if len(places) <= spare // 2:
            self.assertEqual((word, told, told_places), ("mended", number, sorted(places)))
        if len(places) <= spare:
            self.assertNotEqual(word, "right")
        if len(places) <= spare - spare // 2:
            self.assertIn(told, (number, None))
        if told is None:
            self.assertEqual((word, told_places), ("lost", []))
        else:
            self.assertEqual(told_places, unlike(rests(base, told), figure))
            self.assertLessEqual(len(told_places), spare // 2)
            self.assertEqual(word, "mended" if told_places else "right")
            self.assertTrue(fits_by_words(base, told))
        if told not in (number, None):
            self.assertGreaterEqual(len(unlike(rests(base, told), rests(base, number))), spare + 1)


class OrdinaryTest(MendedCase):
    def test_a_right_figure(self):
        self.assert_mended(((3, 5), (7, 8)), [2, 3, 1, 0], ("lost", None, []))
        self.assert_mended(((3, 5), (7, 8)), [2, 4, 6, 7], ("right", -1, []))
        self.assert_mended(((3, 5), ()), [2, 4], ("right", -1, []))
        self.assert_mended(((3, 5), (7,)), [1, 2, 0], ("right", 7, []))

    def test_one_wrong_place(self):
        base = ((3, 5), (7, 8))
        self.assert_mended(base, [1, 4, 6, 7], ("mended", -1, [0]))
        self.assert_mended(base, [2, 0, 6, 7], ("mended", -1, [1]))
        self.assert_mended(base, [2, 4, 0, 7], ("mended", -1, [2]))
        self.assert_mended(base, [2, 4, 6, 0], ("mended", -1, [3]))

    def test_two_wrong_places(self):
        base = ((3, 5), (7, 8, 13, 11))
        self.assert_mended(base, [0, 4, 6, 7, 12, 0], ("mended", -1, [0, 5]))
        self.assert_mended(base, [0, 0, 6, 7, 12, 10], ("mended", -1, [0, 1]))
        self.assert_mended(base, [2, 4, 6, 0, 0, 10], ("mended", -1, [3, 4]))

    def test_nothing_to_mend_with(self):
        self.assert_mended(((3, 5), (7,)), [2, 4, 5], ("lost", None, []))
        self.assert_mended(((3, 5), (7,)), [1, 4, 6], ("lost", None, []))

    def test_three_spare_divisors_mend_one_place(self):
        base = ((3, 5), (7, 8, 11))
        self.assert_mended(base, [0, 4, 6, 7, 10], ("mended", -1, [0]))
        self.assert_mended(base, [0, 4, 6, 7, 0], ("lost", None, []))

    def test_arguments_by_name(self):
        self.assert_told(mended(figure=[1, 4, 6, 7], base=((3, 5), (7, 8))), ("mended", -1, [0]))


class EveryFigureTest(MendedCase):
    def test_every_figure_of_a_small_base(self):
        for base in ALL_FIGURES:
            with self.subTest(base=base):
                for figure in itertools.product(*[range(divisor) for divisor in base[0] + base[1]]):
                    self.assert_mended(base, list(figure), mended_by_a_walk(base, figure))

    def test_every_number_of_a_small_base_is_right(self):
        for base in SMALL_BASES:
            with self.subTest(base=base):
                for number in fitting(base):
                    self.assert_mended(base, rests(base, number), ("right", number, []))


class MadeWrongTest(MendedCase):
    def test_at_any_places_up_to_all(self):
        source = random.Random(11)
        for base in (((7, 3, 5), ()), ((7, 3, 5), (11,)), ((5, 4, 3), (11, 7)), ((4, 9, 5), (11, 49, 13)),
                     ((7, 3, 5, 2), (17, 11, 19, 13))):
            count = len(base[0]) + len(base[1])
            for size in range(1, count + 1):
                for places in itertools.combinations(range(count), size):
                    for number in (source.choice(fitting(base)), source.choice(ends(base))):
                        figure = made_wrong(source, base, number, places)
                        with self.subTest(base=base, number=number, figure=figure):
                            self.assert_mended(base, figure, mended_by_a_walk(base, figure))
                            self.assert_point_twelve(base, number, places, figure)

    def test_every_wrong_rest_at_one_place(self):
        for base in (((5, 2), (9, 7)), ((4, 9, 5), (11, 49, 13)), ((7, 3, 5, 2), (17, 11, 19, 13))):
            for number in ends(base) + (0, 1):
                for place, divisor in enumerate(base[0] + base[1]):
                    for shift in range(1, divisor):
                        figure = rests(base, number)
                        figure[place] = (figure[place] + shift) % divisor
                        self.assert_mended(base, figure, ("mended", number, [place]))

    def test_every_two_wrong_rests(self):
        base = ((7, 3, 5, 2), (17, 11, 19, 13))
        divisors = base[0] + base[1]
        for number in ends(base):
            for one, other in itertools.combinations(range(8), 2):
                for shifts in itertools.product(range(1, divisors[one]), range(1, divisors[other])):
                    figure = rests(base, number)
                    figure[one] = (figure[one] + shifts[0]) % divisors[one]
                    figure[other] = (figure[other] + shifts[1]) % divisors[other]
                    self.assert_mended(base, figure, ("mended", number, [one, other]))

    def test_the_greatest_divisors(self):
        source = random.Random(12)
        for base in GREATEST + GREAT_BASES:
            count = len(base[0]) + len(base[1])
            for number in drawn(base, 12):
                self.assert_mended(base, rests(base, number), ("right", number, []))
                for size in range(1, count + 1):
                    for places in itertools.islice(itertools.combinations(range(count), size), 0, None, size):
                        figure = made_wrong(source, base, number, places)
                        with self.subTest(base=base, number=number, figure=figure):
                            self.assert_point_twelve(base, number, places, figure)


class BetweenTwoNumbersTest(MendedCase):
    def test_figures_between_two_numbers(self):
        """Of two numbers unlike at r + 1 places alone, the one with few enough of them wrong is told, or none."""
        for base in GREATEST + (((999959, 999808), (999961, 999979, 999983, 999999)), ((4, 3), (11, 5, 7))):
            spare = len(base[1])
            for left in range(len(base[0])):
                step = product_of(base[0]) // base[0][left]
                for one in (0, -1, ends(base)[0], ends(base)[1] - step):
                    other = one + step
                    places = [left] + list(range(len(base[0]), len(base[0]) + spare))
                    self.assertEqual(unlike(rests(base, one), rests(base, other)), places)
                    for turn in range(spare + 2):
                        figure = rests(base, one)
                        for place in places[:turn]:
                            figure[place] = rests(base, other)[place]
                        with self.subTest(base=base, one=one, left=left, turn=turn):
                            self.assert_between(base, figure, (one, places[:turn]), (other, places[turn:]))

    def assert_between(self, base, figure, one, other):
        for number, places in (one, other):
            if len(places) <= len(base[1]) // 2:
                self.assert_mended(base, figure, ("mended" if places else "right", number, places))
                return
        self.assert_mended(base, figure, ("lost", None, []))

    def test_numbers_one_beyond_the_ends_are_lost(self):
        for base in SMALL_BASES + GREAT_BASES + GREATEST:
            if base[1]:
                low, high = ends(base)
                for number in (low - 1, high + 1):
                    with self.subTest(base=base, number=number):
                        self.assert_mended(base, rests(base, number), ("lost", None, []))

    def test_a_figure_of_a_number_that_does_not_fit_without_spare_ones(self):
        for base in (((10,), ()), ((7, 3, 5), ()), GREATEST[0]):
            low, high = ends(base)
            with self.subTest(base=base):
                self.assert_mended(base, rests(base, high + 1), ("right", low, []))
                self.assert_mended(base, rests(base, low - 1), ("right", high, []))


class NoFigureTest(RefusalCase):
    def test_lists_that_are_no_figures(self):
        for base in SMALL_BASES + GREAT_BASES:
            figure = rests(base, 1)
            for given in ([], figure[:-1], figure + [0], [0] + figure, figure + figure, [0] * 100000):
                with self.subTest(base=base, given=given[:12]):
                    self.assert_refused(BadFigure, mended, base, given)

    def test_rests_out_of_bounds(self):
        """Though but one place is off, a list that is no figure is not mended."""
        for base in SMALL_BASES + GREAT_BASES:
            for place, divisor in enumerate(base[0] + base[1]):
                for off in (divisor, divisor + 1, -1, -divisor, 10 ** 60 - 1, 1 - 10 ** 60):
                    figure = rests(base, 1)
                    figure[place] = off
                    with self.subTest(base=base, figure=figure):
                        self.assert_refused(BadFigure, mended, base, figure)


if __name__ == "__main__":
    unittest.main()
