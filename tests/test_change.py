"""Point 10."""

import itertools
import random
import unittest

from restfigures.change import put_in, taken_out
from restfigures.errors import BadBase, BadPlace, TooGreat
from tests.helpers import (
    GREAT_BASES, GREATEST_KEPT, GREATEST_SPARE, PAIR_BASES, SMALL_BASES, RefusalCase, drawn, ends, fits_by_words,
    fitting, rests,
)

# (base, kept ones to put in, spare ones to put in)
WIDENED = (
    (((2,), ()), [], []),
    (((2,), ()), [3], []),
    (((2,), ()), [], [3]),
    (((3,), ()), [2], [7, 5]),
    (((3,), ()), [7, 2, 5], [13, 11]),
    (((10,), (11,)), [], [17, 13]),
    (((10,), (11,)), [9, 7], []),
    (((5, 2), (11, 9)), [7], []),
    (((5, 2), (9, 7)), [], [13, 11]),
    (((7, 3, 5), (11,)), [4], [17, 13]),
    (((7, 3, 5), (17, 23)), [2, 13, 11], [29, 19]),
    (((4, 9, 5), (11, 49, 13)), [], [17]),
    (((5, 3, 13, 2, 11, 7), ()), [], [17]),
    (((5, 3, 13, 2, 11, 7), ()), [], [23, 17, 29, 19]),
)


def without(base, places):
    divisors = list(enumerate(base[0] + base[1]))
    kept = tuple(divisor for place, divisor in divisors[:len(base[0])] if place not in places)
    spare = tuple(divisor for place, divisor in divisors[len(base[0]):] if place not in places)
    return (kept, spare)


class PutInTest(RefusalCase):
    def assert_put_in(self, base, number, kept, spare):
        """Put in as told, and taken out again as before."""
        wider = (base[0] + tuple(kept), base[1] + tuple(spare))
        given = (rests(base, number), list(kept), list(spare))
        told = put_in(base, *given)
        self.assert_told(told, (wider, rests(wider, number)))
        self.assertEqual(given, (rests(base, number), kept, spare))
        first_spare = len(wider[0])
        places = list(range(len(base[0]), first_spare))
        places += list(range(first_spare + len(base[1]), first_spare + len(wider[1])))
        self.assert_told(taken_out(told[0], told[1], places), (base, rests(base, number)))
        self.assert_told(taken_out(told[0], told[1], places[::-1]), (base, rests(base, number)))

    def test_ordinary_figures(self):
        base = ((3, 5), (11,))
        self.assert_told(put_in(base, [1, 2, 7], [7], []), (((3, 5, 7), (11,)), [1, 2, 0, 7]))
        self.assert_told(put_in(base, [1, 2, 7], [], [8]), (((3, 5), (11, 8)), [1, 2, 7, 7]))
        self.assert_told(put_in(base, [2, 4, 10], [7], [8]), (((3, 5, 7), (11, 8)), [2, 4, 6, 10, 7]))

    def test_every_number_of_a_small_base(self):
        for base, kept, spare in WIDENED:
            with self.subTest(base=base, kept=kept, spare=spare):
                for number in fitting(base):
                    self.assert_put_in(base, number, kept, spare)

    def test_none_put_in(self):
        for base in SMALL_BASES + GREAT_BASES:
            for number in drawn(base, 12):
                with self.subTest(base=base, number=number):
                    self.assert_put_in(base, number, [], [])

    def test_the_greatest_divisors(self):
        for kept in range(1, 7):
            for spare in range(5):
                base = (tuple(GREATEST_KEPT[:kept]), tuple(GREATEST_SPARE[:spare]))
                with self.subTest(base=base):
                    for number in drawn(base, 12):
                        self.assert_put_in(base, number, GREATEST_KEPT[kept:], GREATEST_SPARE[spare:])

    def test_as_many_as_a_base_may_have_one_after_the_other(self):
        base = ((3,), ())
        figure = [2]
        for kept, spare in (([], [29]), ([7], []), ([2], []), ([], [19]), ([13, 5], []), ([], [23, 17]), ([11], [])):
            told = put_in(base, figure, kept, spare)
            base, figure = told
        self.assert_told(base, ((3, 7, 2, 13, 5, 11), (29, 19, 23, 17)))
        self.assert_told(figure, rests(base, -1))

    def test_spare_divisors_may_be_as_great_as_ten_to_the_sixth(self):
        self.assert_told(put_in(((999999,), ()), [999998], [], [10 ** 6]), (((999999,), (10 ** 6,)), [999998, 999999]))
        self.assert_told(put_in(((3,), ()), [2], [10 ** 6], []), (((3, 10 ** 6), ()), [2, 999999]))
        self.assert_told(put_in(((3,), ()), [2], [2], []), (((3, 2), ()), [2, 1]))


class PutInRefusedTest(RefusalCase):
    def assert_no_base(self, base, kept, spare):
        for number in set((0,) + ends(base)):
            with self.subTest(base=base, number=number, kept=kept[:9], spare=spare[:9]):
                self.assert_refused(BadBase, put_in, base, rests(base, number), kept, spare)

    def test_too_many(self):
        self.assert_no_base(((5, 3, 13, 2, 11, 7), ()), [17], [])
        self.assert_no_base(((5, 3, 13, 2, 11, 7), ()), [17], [19])
        self.assert_no_base(((5, 3), ()), [2, 13, 7, 11, 17], [])
        self.assert_no_base(((3, 2), (7, 5, 13, 11)), [], [17])
        self.assert_no_base(((3, 2), (7, 5, 13)), [], [17, 11])
        self.assert_no_base(((3,), ()), [], [7, 5, 13, 11, 17])
        self.assert_no_base(((3,), ()), [5] * 100000, [])
        self.assert_no_base(((3,), ()), [], list(range(100000)))

    def test_divisors_out_of_bounds(self):
        for divisor in (1, 0, -1, -7, 10 ** 6 + 1, 10 ** 6 + 3, 10 ** 60 - 1, 1 - 10 ** 60):
            self.assert_no_base(((3, 5), ()), [divisor], [])
            self.assert_no_base(((3, 5), ()), [], [divisor])
            self.assert_no_base(((3, 5), ()), [7, divisor], [11])
            self.assert_no_base(((3, 5), ()), [7], [11, divisor])

    def test_common_parts(self):
        base = ((9, 10), (11, 49))
        self.assert_no_base(base, [3], [])
        self.assert_no_base(base, [9], [])
        self.assert_no_base(base, [5], [])
        self.assert_no_base(base, [7], [])
        self.assert_no_base(((9, 10), (77,)), [7], [])
        self.assert_no_base(base, [], [12])
        self.assert_no_base(base, [], [15])
        self.assert_no_base(base, [], [11])
        self.assert_no_base(base, [], [77])
        self.assert_no_base(((9,), ()), [4, 2], [])
        self.assert_no_base(((9,), ()), [4, 4], [])
        self.assert_no_base(((9,), ()), [4], [14])
        self.assert_no_base(((9,), ()), [], [25, 35])
        self.assert_no_base(((9,), ()), [], [11, 11])

    def test_a_kept_one_greater_than_a_spare_one(self):
        self.assert_no_base(((3, 5), (7,)), [8], [])
        self.assert_no_base(((3, 5), (7, 11)), [8], [])
        self.assert_no_base(((3, 5), (11, 7)), [8], [])
        self.assert_no_base(((3, 5), ()), [8], [7])
        self.assert_no_base(((3, 5), (11,)), [2], [4])
        self.assert_no_base(((3, 5), ()), [], [4])
        self.assert_no_base(((5, 3), ()), [], [11, 4])
        self.assert_no_base(((3,), (10 ** 6 - 1,)), [10 ** 6], [])


class TakenOutTest(RefusalCase):
    def assert_taken_out(self, base, number, places):
        narrower = without(base, places)
        figure = rests(base, number)
        given = list(places)
        if narrower[0] == ():
            self.assert_refused(BadBase, taken_out, base, figure, given)
        elif fits_by_words(narrower, number):
            self.assert_told(taken_out(base, figure, given), (narrower, rests(narrower, number)))
        else:
            self.assert_refused(TooGreat, taken_out, base, figure, given)
        self.assertEqual((figure, given), (rests(base, number), list(places)))

    def test_ordinary_figures(self):
        base = ((3, 5, 7), (11, 8))
        figure = rests(base, 8)
        self.assert_told(taken_out(base, figure, []), (base, [2, 3, 1, 8, 0]))
        self.assert_told(taken_out(base, figure, [3]), (((3, 5, 7), (8,)), [2, 3, 1, 0]))
        self.assert_told(taken_out(base, figure, [4, 3]), (((3, 5, 7), ()), [2, 3, 1]))
        self.assert_told(taken_out(base, figure, [1]), (((3, 7), (11, 8)), [2, 1, 8, 0]))
        self.assert_told(taken_out(base, figure, [3, 0]), (((5, 7), (8,)), [3, 1, 0]))

    def test_every_number_and_every_places_of_a_small_base(self):
        for base in PAIR_BASES + (((7, 3, 5), (11,)), ((4, 9, 5), (11,))):
            count = len(base[0]) + len(base[1])
            with self.subTest(base=base):
                for size in range(count + 1):
                    for places in itertools.combinations(range(count), size):
                        for number in fitting(base):
                            self.assert_taken_out(base, number, places)

    def test_places_in_any_order(self):
        base = ((7, 3, 5), (11, 8))
        for size in range(5):
            for places in itertools.permutations(range(5), size):
                for number in (-1, 0, 1, 2, -52, 52):
                    with self.subTest(places=places, number=number):
                        self.assert_taken_out(base, number, places)

    def test_drawn_numbers_of_great_bases(self):
        source = random.Random(10)
        for base in GREAT_BASES:
            count = len(base[0]) + len(base[1])
            with self.subTest(base=base):
                for number in drawn(base, 60):
                    for size in range(count + 1):
                        self.assert_taken_out(base, number, source.sample(range(count), size))

    def test_all_but_one_kept_one(self):
        for base in SMALL_BASES + GREAT_BASES:
            count = len(base[0]) + len(base[1])
            for left, divisor in enumerate(base[0]):
                places = [place for place in range(count) if place != left]
                for number in (0, 1, divisor // 2, divisor // 2 + 1, -((divisor - 1) // 2), -((divisor - 1) // 2) - 1):
                    if fits_by_words(base, number):
                        with self.subTest(base=base, left=left, number=number):
                            self.assert_taken_out(base, number, places)

    def test_what_just_fits_what_is_left_and_one_beyond(self):
        base = ((3, 5, 2), (7, 11))
        self.assert_told(taken_out(base, rests(base, 7), [2]), (((3, 5), (7, 11)), [1, 2, 0, 7]))
        self.assert_told(taken_out(base, rests(base, -7), [2]), (((3, 5), (7, 11)), [2, 3, 0, 4]))
        self.assert_refused(TooGreat, taken_out, base, rests(base, 8), [2])
        self.assert_refused(TooGreat, taken_out, base, rests(base, -8), [2])
        self.assert_told(taken_out(base, rests(base, 5), [0]), (((5, 2), (7, 11)), [0, 1, 5, 5]))
        self.assert_told(taken_out(base, rests(base, -4), [0]), (((5, 2), (7, 11)), [1, 0, 3, 7]))
        self.assert_refused(TooGreat, taken_out, base, rests(base, 6), [0])
        self.assert_refused(TooGreat, taken_out, base, rests(base, -5), [0])

    def test_spare_ones_taken_out_are_no_hindrance(self):
        for base in SMALL_BASES + GREAT_BASES:
            spare = list(range(len(base[0]), len(base[0]) + len(base[1])))
            for number in ends(base):
                with self.subTest(base=base, number=number):
                    told = taken_out(base, rests(base, number), spare)
                    self.assert_told(told, ((base[0], ()), [number % divisor for divisor in base[0]]))

    def test_taken_out_and_put_in_behind(self):
        base = ((3, 5, 7), (11, 13))
        told = taken_out(base, rests(base, 4), [0, 3])
        self.assert_told(put_in(told[0], told[1], [3], [11]), (((5, 7, 3), (13, 11)), [4, 4, 1, 4, 4]))


class TakenOutRefusedTest(RefusalCase):
    def test_places_that_are_none_of_the_bases(self):
        for base in SMALL_BASES + GREAT_BASES:
            count = len(base[0]) + len(base[1])
            for place in (-1, -count, -count - 1, count, count + 1, 100, 10 ** 60 - 1, 1 - 10 ** 60):
                for places in ([place], [count - 1, place], [place] + list(range(1, count)), list(range(count)) + [place]):
                    with self.subTest(base=base, places=places):
                        self.assert_refused(BadPlace, taken_out, base, rests(base, 0), places)

    def test_places_that_stand_twice(self):
        for base in SMALL_BASES + GREAT_BASES:
            every = list(range(len(base[0]) + len(base[1])))
            for place in every:
                with self.subTest(base=base, place=place):
                    self.assert_refused(BadPlace, taken_out, base, rests(base, 0), [place, place])
                    self.assert_refused(BadPlace, taken_out, base, rests(base, 0), every + [place])
                    self.assert_refused(BadPlace, taken_out, base, rests(base, 0), [place] + every)

    def test_very_many_places(self):
        self.assert_refused(BadPlace, taken_out, ((3, 5, 7), (11,)), [1, 1, 1, 1], [3] * 100000)

    def test_no_kept_one_left(self):
        for base in SMALL_BASES + GREAT_BASES:
            kept = list(range(len(base[0])))
            every = list(range(len(base[0]) + len(base[1])))
            for number in set((0, 1) + ends(base)):
                with self.subTest(base=base, number=number):
                    self.assert_refused(BadBase, taken_out, base, rests(base, number), kept)
                    self.assert_refused(BadBase, taken_out, base, rests(base, number), kept[::-1])
                    self.assert_refused(BadBase, taken_out, base, rests(base, number), every)

    def test_bad_place_ahead_of_bad_base_and_too_great(self):
        base = ((3, 5, 7), (11,))
        for number in (0, 52):
            self.assert_refused(BadPlace, taken_out, base, rests(base, number), [0, 1, 2, 4])
            self.assert_refused(BadPlace, taken_out, base, rests(base, number), [0, 1, 2, -1])
            self.assert_refused(BadPlace, taken_out, base, rests(base, number), [0, 1, 2, 2])
        self.assert_refused(TooGreat, taken_out, base, rests(base, 52), [0])
        self.assert_refused(BadPlace, taken_out, base, rests(base, 52), [0, 0])
        self.assert_refused(BadPlace, taken_out, base, rests(base, 52), [0, 4])


class NamesTest(RefusalCase):
    def test_arguments_by_name(self):
        base = ((3, 5), (11,))
        told = put_in(spare=[8], kept=[7], figure=[2, 4, 10], base=base)
        self.assert_told(told, (((3, 5, 7), (11, 8)), [2, 4, 6, 10, 7]))
        self.assert_told(taken_out(places=[1], figure=[1, 1, 1], base=base), (((3,), (11,)), [1, 1]))


if __name__ == "__main__":
    unittest.main()
