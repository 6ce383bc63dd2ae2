"""Points 2 and 3, and point 1 as far as bases go."""

import math
import unittest

from restfigures.bases import base_of, common, highest, lowest
from restfigures.errors import BadBase
from tests.helpers import GREATEST_KEPT, GREATEST_SPARE, SMALL_BASES, RefusalCase, fitting, product_of


class CommonTest(unittest.TestCase):
    def test_small_numbers(self):
        for a in range(60):
            for b in range(60):
                if a or b:
                    with self.subTest(a=a, b=b):
                        divisors = [d for d in range(1, 60) if a % d == 0 and b % d == 0]
                        self.assertEqual(common(a, b), max(divisors))

    def test_one_of_them_nought(self):
        for number in (1, 2, 10 ** 6, 10 ** 60 - 1):
            with self.subTest(number=number):
                self.assertEqual(common(number, 0), number)
                self.assertEqual(common(0, number), number)

    def test_the_same_twice(self):
        self.assertEqual(common(1, 1), 1)
        self.assertEqual(common(10 ** 59, 10 ** 59), 10 ** 59)

    def test_a_common_part_of_many_figures(self):
        part = 3 ** 60
        one = part * 2 ** 100
        other = part * 5 ** 40
        self.assertLessEqual(len(str(one)), 60)
        self.assertEqual(common(one, other), part)
        self.assertEqual(common(other, one), part)

    def test_sixty_figures_either_way_about(self):
        numbers = (10 ** 60 - 1, 10 ** 59, 9 * 10 ** 59 + 12, 7 ** 70, 2 ** 199, 999983 ** 10, 6, 1)
        for a in numbers:
            for b in numbers:
                with self.subTest(a=a, b=b):
                    self.assertEqual(common(a, b), math.gcd(a, b))

    def test_the_longest_way_of_remainders(self):
        less, greater = 1, 1
        while greater < 10 ** 59:
            less, greater = greater, less + greater
        self.assertEqual(common(greater, less), 1)
        self.assertEqual(common(less, greater), 1)
        self.assertEqual(common(7 * less, 7 * greater), 7)


class BaseOfTest(RefusalCase):
    def test_ordinary_bases_in_their_order(self):
        self.assertEqual(base_of([3, 5, 7], [11]), ((3, 5, 7), (11,)))
        self.assertEqual(base_of([7, 3, 5], []), ((7, 3, 5), ()))
        self.assertEqual(base_of([13, 2, 11, 3, 7, 5], [29, 17, 23, 19]), ((13, 2, 11, 3, 7, 5), (29, 17, 23, 19)))
        self.assertEqual(base_of([25, 4, 9], [77]), ((25, 4, 9), (77,)))
        for kept, spare in SMALL_BASES:
            with self.subTest(kept=kept, spare=spare):
                self.assertEqual(base_of(list(kept), list(spare)), (kept, spare))

    def test_arguments_by_name(self):
        self.assertEqual(base_of(spare=[7], kept=[3]), ((3,), (7,)))

    def test_the_base_holds_tuples(self):
        for spare in ([], [11, 13]):
            base = base_of([3, 5], spare)
            self.assertIs(type(base), tuple)
            self.assertEqual(len(base), 2)
            self.assertIs(type(base[0]), tuple)
            self.assertIs(type(base[1]), tuple)

    def test_the_least_and_the_greatest_divisor(self):
        self.assertEqual(base_of([2], []), ((2,), ()))
        self.assertEqual(base_of([10 ** 6], []), ((10 ** 6,), ()))
        self.assertEqual(base_of([2], [3]), ((2,), (3,)))
        self.assertEqual(base_of([999999], [10 ** 6]), ((999999,), (10 ** 6,)))
        greatest = (tuple(GREATEST_KEPT), tuple(GREATEST_SPARE))
        self.assertEqual(base_of(GREATEST_KEPT, GREATEST_SPARE), greatest)

    def test_divisors_out_of_bounds(self):
        for divisor in (1, 0, -1, -2, -3, -7, 10 ** 6 + 1, 10 ** 6 + 3, 10 ** 60 - 1, 1 - 10 ** 60):
            for kept, spare in (
                ([divisor], []),
                ([3, divisor], []),
                ([divisor, 3], [5]),
                ([3], [divisor]),
                ([3], [divisor, 5]),
                ([3], [5, divisor]),
            ):
                with self.subTest(kept=kept, spare=spare):
                    self.assert_refused(BadBase, base_of, kept, spare)

    def test_counts_of_divisors(self):
        primes = [2, 3, 5, 7, 11, 13, 17, 19, 23, 29, 31, 37]
        for kept in range(8):
            for spare in range(6):
                given = (primes[:kept], primes[7:7 + spare])
                with self.subTest(kept=kept, spare=spare):
                    if 1 <= kept <= 6 and spare <= 4:
                        self.assertEqual(base_of(*given), (tuple(given[0]), tuple(given[1])))
                    else:
                        self.assert_refused(BadBase, base_of, *given)

    def test_lists_of_very_many(self):
        many = list(range(2, 100000))
        self.assert_refused(BadBase, base_of, many, [])
        self.assert_refused(BadBase, base_of, [2], many)
        self.assert_refused(BadBase, base_of, many, many)

    def test_the_same_divisor_twice(self):
        for kept, spare in (([7, 7], []), ([2, 2], []), ([5, 3, 5], [7]), ([3], [7, 7]), ([7], [7]), ([3, 7], [11, 7])):
            with self.subTest(kept=kept, spare=spare):
                self.assert_refused(BadBase, base_of, kept, spare)

    def test_the_same_list_twice(self):
        divisors = [5]
        self.assert_refused(BadBase, base_of, divisors, divisors)

    def test_a_common_part_above_one(self):
        for kept, spare in (
            ([4, 6], []),
            ([4, 5, 7, 9, 11, 26], []),
            ([6, 5, 7, 11, 13, 9], []),
            ([5, 2, 10], []),
            ([5], [9, 6]),
            ([3], [14, 5, 11, 21]),
            ([4], [6]),
            ([7, 4, 5], [11, 10]),
            ([999983, 2], [10 ** 6]),
        ):
            with self.subTest(kept=kept, spare=spare):
                self.assert_refused(BadBase, base_of, kept, spare)

    def test_a_spare_divisor_less_than_a_kept_one(self):
        for kept, spare in (
            ([7], [5]),
            ([3, 7], [5]),
            ([7, 3], [5]),
            ([3, 7, 2], [11, 5]),
            ([3, 7, 2], [5, 11]),
            ([2, 3, 5, 7, 11, 19], [23, 29, 17, 31]),
            ([10 ** 6], [999999]),
        ):
            with self.subTest(kept=kept, spare=spare):
                self.assert_refused(BadBase, base_of, kept, spare)

    def test_the_lists_handed_in_stay_and_the_base_stands_apart(self):
        kept = [7, 3]
        spare = [13, 11]
        base = base_of(kept, spare)
        self.assertEqual((kept, spare), ([7, 3], [13, 11]))
        kept.append(5)
        spare.clear()
        self.assertEqual(base, ((7, 3), (13, 11)))
        self.assertEqual(base_of(kept, spare), ((7, 3, 5), ()))
        self.assertEqual(base_of([7, 3], [13, 11]), ((7, 3), (13, 11)))


class FitTest(unittest.TestCase):
    def test_an_odd_span(self):
        base = base_of([3, 5, 7], [11])
        self.assertEqual((lowest(base), highest(base)), (-52, 52))
        base = base_of([3], [])
        self.assertEqual((lowest(base), highest(base)), (-1, 1))

    def test_an_even_span(self):
        base = base_of([5, 2, 3], [])
        self.assertEqual((lowest(base), highest(base)), (-14, 15))
        base = base_of([2], [3, 5, 7, 11])
        self.assertEqual((lowest(base), highest(base)), (0, 1))
        base = base_of([10 ** 6], [])
        self.assertEqual((lowest(base), highest(base)), (-499999, 500000))

    def test_spare_divisors_do_not_count(self):
        for kept, spare in SMALL_BASES:
            with self.subTest(kept=kept, spare=spare):
                self.assertEqual(lowest((kept, spare)), lowest((kept, ())))
                self.assertEqual(highest((kept, spare)), highest((kept, ())))

    def test_just_one_number_of_each_rest_by_the_span_fits(self):
        for kept, spare in SMALL_BASES:
            with self.subTest(kept=kept, spare=spare):
                span = product_of(kept)
                numbers = range(lowest((kept, spare)), highest((kept, spare)) + 1)
                self.assertEqual(numbers, fitting((kept, spare)))
                self.assertEqual(sorted(number % span for number in numbers), list(range(span)))

    def test_the_greatest_divisors(self):
        base = base_of(GREATEST_KEPT, GREATEST_SPARE)
        span = 999983 * 999931 * 999979 * 999953 * 999961 * 999959
        self.assertEqual((lowest(base), highest(base)), (-((span - 1) // 2), span // 2))
        even = base_of([10 ** 6] + GREATEST_KEPT[:5], [])
        span = 10 ** 6 * product_of(GREATEST_KEPT[:5])
        self.assertEqual((lowest(even), highest(even)), (1 - span // 2, span // 2))


if __name__ == "__main__":
    unittest.main()
