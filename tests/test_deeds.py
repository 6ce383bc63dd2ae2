"""Points 8 and 9."""

import itertools
import operator
import random
import unittest

from restfigures.deeds import added, multiplied, quotient, rest, scaled, taken, turned
from restfigures.errors import BadDivisor, BadPlace, TooGreat
from tests.helpers import (
    GREAT_BASES, PAIR_BASES, SMALL_BASES, RefusalCase, drawn, ends, fits_by_words, fitting, product_of, rests,
)

DEEDS_OF_TWO = ((added, operator.add), (taken, operator.sub), (multiplied, operator.mul))
SIXTY_FIGURES = (10 ** 59, 7 ** 70, 10 ** 60 - 1)
# All but the one of thirty thousand numbers, for what is asked of each number many times over.
SHORT_BASES = SMALL_BASES[:-1] + PAIR_BASES


def factors_of(number):
    """A factor from 2 up and what it is taken times."""
    factor = 2
    while number % factor != 0:
        factor += 1
    return (factor, number // factor)


class DeedsOfTwoTest(RefusalCase):
    def assert_deed(self, base, deed, in_whole_numbers, one, other):
        want = in_whole_numbers(one, other)
        if fits_by_words(base, want):
            self.assert_told(deed(base, rests(base, one), rests(base, other)), rests(base, want))
        else:
            self.assert_refused(TooGreat, deed, base, rests(base, one), rests(base, other))

    def test_ordinary_figures(self):
        base = ((3, 5, 7), (11,))
        eight = [2, 3, 1, 8]
        five = [2, 0, 5, 5]
        self.assert_told(added(base, eight, five), [1, 3, 6, 2])
        self.assert_told(taken(base, eight, five), [0, 3, 3, 3])
        self.assert_told(taken(base, five, eight), [0, 2, 4, 8])
        self.assert_told(multiplied(base, eight, five), [1, 0, 5, 7])
        self.assert_told(turned(base, eight), [1, 2, 6, 3])

    def test_every_pair_of_a_small_base(self):
        for base in PAIR_BASES:
            for deed, in_whole_numbers in DEEDS_OF_TWO:
                with self.subTest(base=base, deed=deed.__name__):
                    for one, other in itertools.product(fitting(base), repeat=2):
                        self.assert_deed(base, deed, in_whole_numbers, one, other)

    def test_drawn_pairs_of_great_bases(self):
        for base in GREAT_BASES:
            for deed, in_whole_numbers in DEEDS_OF_TWO:
                with self.subTest(base=base, deed=deed.__name__):
                    for one, other in itertools.product(drawn(base, 45), repeat=2):
                        self.assert_deed(base, deed, in_whole_numbers, one, other)

    def test_the_ends_as_one_as_other_as_both(self):
        for base in SMALL_BASES + GREAT_BASES:
            low, high = ends(base)
            near = [number for number in (low, low + 1, -1, 0, 1, high - 1, high) if low <= number <= high]
            for deed, in_whole_numbers in DEEDS_OF_TWO:
                with self.subTest(base=base, deed=deed.__name__):
                    for one, other in itertools.product(near, repeat=2):
                        self.assert_deed(base, deed, in_whole_numbers, one, other)

    def test_sums_and_differences_that_just_fit_and_one_beyond(self):
        for base in GREAT_BASES + (((3, 5, 7), (11,)), ((5, 2), (9, 7))):
            low, high = ends(base)
            for part in (1, 2, high // 3, high // 2, high - 1):
                with self.subTest(base=base, part=part):
                    self.assert_told(added(base, rests(base, high - part), rests(base, part)), rests(base, high))
                    self.assert_refused(TooGreat, added, base, rests(base, high - part), rests(base, part + 1))
                    self.assert_told(taken(base, rests(base, high - part), rests(base, -part)), rests(base, high))
                    self.assert_told(taken(base, rests(base, low + part), rests(base, part)), rests(base, low))
                    self.assert_refused(TooGreat, taken, base, rests(base, low + part), rests(base, part + 1))
                    self.assert_told(added(base, rests(base, low + part), rests(base, -part)), rests(base, low))
                    self.assert_refused(TooGreat, added, base, rests(base, low + part - 1), rests(base, -part))

    def test_products_that_just_fit_and_one_beyond(self):
        for base in GREAT_BASES + (((3, 5), (7,)), ((10,), (11,)), ((5, 3, 2), (7, 11))):
            low, high = ends(base)
            for number in (low - 1, low, high, high + 1):
                factor, times = factors_of(number)
                if fits_by_words(base, times) and fits_by_words(base, factor):
                    with self.subTest(base=base, number=number):
                        self.assert_deed(base, multiplied, operator.mul, factor, times)
                        self.assert_deed(base, multiplied, operator.mul, times, factor)

    def test_a_product_beyond_the_span_by_far(self):
        for base in GREAT_BASES:
            low, high = ends(base)
            with self.subTest(base=base):
                self.assert_refused(TooGreat, multiplied, base, rests(base, high), rests(base, high))
                self.assert_refused(TooGreat, multiplied, base, rests(base, high), rests(base, low))
                self.assert_told(multiplied(base, rests(base, high), rests(base, 0)), rests(base, 0))

    def test_one_list_as_both(self):
        base = ((3, 5, 7), (11,))
        figure = rests(base, 6)
        self.assert_told(added(base, figure, figure), rests(base, 12))
        self.assert_told(taken(base, figure, figure), rests(base, 0))
        self.assert_told(multiplied(base, figure, figure), rests(base, 36))
        self.assertEqual(figure, rests(base, 6))


class TurnedTest(RefusalCase):
    def assert_turned(self, base, number):
        if fits_by_words(base, -number):
            self.assert_told(turned(base, rests(base, number)), rests(base, -number))
        else:
            self.assert_refused(TooGreat, turned, base, rests(base, number))

    def test_every_number_of_a_small_base(self):
        for base in SMALL_BASES + PAIR_BASES:
            with self.subTest(base=base):
                for number in fitting(base):
                    self.assert_turned(base, number)

    def test_drawn_numbers_of_great_bases(self):
        for base in GREAT_BASES:
            with self.subTest(base=base):
                for number in drawn(base, 300):
                    self.assert_turned(base, number)

    def test_the_ends_of_an_odd_span(self):
        self.assert_told(turned(((3, 5), (7,)), rests(((3, 5), (7,)), 7)), rests(((3, 5), (7,)), -7))
        self.assert_told(turned(((3, 5), (7,)), rests(((3, 5), (7,)), -7)), rests(((3, 5), (7,)), 7))

    def test_the_ends_of_an_even_span(self):
        base = ((5, 2), (9, 7))
        self.assert_told(turned(base, rests(base, -4)), rests(base, 4))
        self.assert_told(turned(base, rests(base, 4)), rests(base, -4))
        self.assert_refused(TooGreat, turned, base, rests(base, 5))
        self.assert_refused(TooGreat, turned, ((2,), ()), [1])
        self.assert_told(turned(((2,), ()), [0]), [0])


class QuotientTest(RefusalCase):
    def assert_divided(self, base, number, by):
        """Point 1's own words: the rest is from 0 to by - 1, and number = quotient * by + rest."""
        figure = rests(base, number)
        left = rest(base, figure, by)
        self.assertIs(type(left), int)
        self.assertTrue(0 <= left < by, (number, by, left))
        times, beyond = divmod(number - left, by)
        self.assertEqual(beyond, 0, (number, by, left))
        self.assert_told(quotient(base, figure, by), rests(base, times))

    def test_ordinary_figures(self):
        base = ((3, 5, 7), (11,))
        self.assert_told(quotient(base, rests(base, 17), 5), rests(base, 3))
        self.assert_told(rest(base, rests(base, 17), 5), 2)
        self.assert_told(quotient(base, rests(base, 20), 5), rests(base, 4))
        self.assert_told(rest(base, rests(base, 20), 5), 0)

    def test_numbers_below_nought(self):
        base = ((3, 5, 7), (11,))
        self.assert_told(quotient(base, rests(base, -17), 5), rests(base, -4))
        self.assert_told(rest(base, rests(base, -17), 5), 3)
        self.assert_told(quotient(base, rests(base, -20), 5), rests(base, -4))
        self.assert_told(rest(base, rests(base, -20), 5), 0)
        self.assert_told(quotient(base, rests(base, -1), 52), rests(base, -1))
        self.assert_told(rest(base, rests(base, -1), 52), 51)

    def test_every_number_of_a_small_base(self):
        for base in SHORT_BASES:
            span = product_of(base[0])
            with self.subTest(base=base):
                for number in fitting(base):
                    for by in list(range(1, 12)) + [span // 2 + 1, span, span + 1]:
                        self.assert_divided(base, number, by)

    def test_drawn_numbers_of_great_bases(self):
        source = random.Random(9)
        for base in GREAT_BASES:
            with self.subTest(base=base):
                for number in drawn(base, 100):
                    for by in (1, 2, 3, 10 ** 6, source.randrange(1, 10 ** 12), source.randrange(1, 10 ** 30)):
                        self.assert_divided(base, number, by)

    def test_by_one(self):
        for base in SMALL_BASES + GREAT_BASES:
            for number in ends(base) + (0,):
                with self.subTest(base=base, number=number):
                    self.assert_told(quotient(base, rests(base, number), 1), rests(base, number))
                    self.assert_told(rest(base, rests(base, number), 1), 0)

    def test_by_more_than_the_number(self):
        for base in SHORT_BASES + GREAT_BASES:
            for number in drawn(base, 12):
                for by in (abs(number) + 1, abs(number) + 2) + SIXTY_FIGURES:
                    with self.subTest(base=base, number=number, by=by):
                        figure = rests(base, number)
                        self.assert_told(quotient(base, figure, by), rests(base, -1 if number < 0 else 0))
                        self.assert_told(rest(base, figure, by), number + by if number < 0 else number)

    def test_by_the_number_itself(self):
        for base in SHORT_BASES + GREAT_BASES:
            for number in drawn(base, 30):
                if number != 0:
                    with self.subTest(base=base, number=number):
                        figure = rests(base, number)
                        self.assert_told(quotient(base, figure, abs(number)), rests(base, -1 if number < 0 else 1))
                        self.assert_told(rest(base, figure, abs(number)), 0)

    def test_by_less_than_one(self):
        for base in SMALL_BASES + GREAT_BASES:
            for by in (0, -1, -2, -(10 ** 59), 1 - 10 ** 60):
                for number in (0, 1) + ends(base):
                    with self.subTest(base=base, by=by, number=number):
                        self.assert_refused(BadDivisor, quotient, base, rests(base, number), by)
                        self.assert_refused(BadDivisor, rest, base, rests(base, number), by)


class ScaledTest(RefusalCase):
    def assert_scaled(self, base, number, places):
        by = product_of([base[0][place] for place in places])
        given = list(places)
        self.assert_told(scaled(base, rests(base, number), given), rests(base, number // by))
        self.assertEqual(given, list(places))

    def test_ordinary_figures(self):
        base = ((3, 5, 7), (11,))
        self.assert_told(scaled(base, rests(base, 52), []), rests(base, 52))
        self.assert_told(scaled(base, rests(base, 52), [0]), rests(base, 17))
        self.assert_told(scaled(base, rests(base, 52), [2]), rests(base, 7))
        self.assert_told(scaled(base, rests(base, 52), [2, 0]), rests(base, 2))
        self.assert_told(scaled(base, rests(base, 52), [1, 2, 0]), rests(base, 0))
        self.assert_told(scaled(base, rests(base, -52), [0]), rests(base, -18))
        self.assert_told(scaled(base, rests(base, -45), [0, 1]), rests(base, -3))
        self.assert_told(scaled(base, rests(base, -52), [1, 2, 0]), rests(base, -1))

    def test_every_number_by_any_places_in_any_order(self):
        for base in SHORT_BASES:
            with self.subTest(base=base):
                for count in range(len(base[0]) + 1):
                    for places in itertools.permutations(range(len(base[0])), count):
                        for number in fitting(base):
                            self.assert_scaled(base, number, places)

    def test_drawn_numbers_of_great_bases(self):
        source = random.Random(3)
        for base in GREAT_BASES:
            with self.subTest(base=base):
                for number in drawn(base, 150):
                    for count in range(len(base[0]) + 1):
                        self.assert_scaled(base, number, source.sample(range(len(base[0])), count))

    def test_places_that_are_no_kept_divisors(self):
        for base in SMALL_BASES + GREAT_BASES:
            kept = len(base[0])
            every = kept + len(base[1])
            # From the first spare divisor's place on, or beyond all where the base has none.
            bad = list(range(kept, every + 2)) + [-1, -kept, -every, 100, 10 ** 60 - 1, 1 - 10 ** 60]
            for place in bad:
                with self.subTest(base=base, place=place):
                    self.assert_refused(BadPlace, scaled, base, rests(base, 1), [place])
                    self.assert_refused(BadPlace, scaled, base, rests(base, 1), [0, place])
                    self.assert_refused(BadPlace, scaled, base, rests(base, 1), [place] + list(range(kept)))
                    self.assert_refused(BadPlace, scaled, base, rests(base, 0), list(range(kept)) + [place])

    def test_places_that_stand_twice(self):
        for base in SMALL_BASES + GREAT_BASES:
            every = list(range(len(base[0])))
            for place in every:
                with self.subTest(base=base, place=place):
                    self.assert_refused(BadPlace, scaled, base, rests(base, 1), [place, place])
                    self.assert_refused(BadPlace, scaled, base, rests(base, 1), every + [place])
                    self.assert_refused(BadPlace, scaled, base, rests(base, 0), [place] + every)

    def test_very_many_places(self):
        self.assert_refused(BadPlace, scaled, ((3, 5, 7), (11,)), [1, 1, 1, 1], [0, 1, 2] * 30000)


class DeedsInARowTest(RefusalCase):
    def follow(self, base, source, steps):
        """Each deed on the figure told last, beside the same in whole numbers."""
        number = source.choice(drawn(base, 20))
        figure = rests(base, number)
        for step in range(steps):
            other = source.choice(drawn(base, 20) + [number, 2, 3, -2])
            other = other if fits_by_words(base, other) else 0
            by = source.choice((1, 2, 3, 5, 10 ** 6))
            place = source.randrange(len(base[0]))
            want, call, given = source.choice((
                (number + other, added, (figure, rests(base, other))),
                (number - other, taken, (figure, rests(base, other))),
                (other - number, taken, (rests(base, other), figure)),
                (number * other, multiplied, (figure, rests(base, other))),
                (number + number, added, (figure, figure)),
                (-number, turned, (figure,)),
                (number // by, quotient, (figure, by)),
                (number // base[0][place], scaled, (figure, [place])),
            ))
            if fits_by_words(base, want):
                figure = call(base, *given)
                number = want
                self.assert_told(figure, rests(base, number))
            else:
                self.assert_refused(TooGreat, call, base, *given)
                self.assertEqual(figure, rests(base, number))

    def test_many_deeds_in_a_row(self):
        for base in SMALL_BASES + GREAT_BASES:
            source = random.Random(product_of(base[0]))
            for time in range(6):
                with self.subTest(base=base, time=time):
                    self.follow(base, source, 60)


class NamesTest(RefusalCase):
    def test_arguments_by_name(self):
        base = ((3, 5, 7), (11,))
        eight = [2, 3, 1, 8]
        five = [2, 0, 5, 5]
        self.assert_told(added(other=five, one=eight, base=base), rests(base, 13))
        self.assert_told(taken(other=five, one=eight, base=base), rests(base, 3))
        self.assert_told(multiplied(other=five, one=eight, base=base), rests(base, 40))
        self.assert_told(turned(one=eight, base=base), rests(base, -8))
        self.assert_told(quotient(by=3, figure=eight, base=base), rests(base, 2))
        self.assert_told(rest(by=3, figure=eight, base=base), 2)
        self.assert_told(scaled(places=[1], figure=eight, base=base), rests(base, 1))


if __name__ == "__main__":
    unittest.main()
