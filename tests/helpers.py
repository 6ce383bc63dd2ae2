"""What several tests share: bases to test with, and a look at the very class of a refusal."""

import unittest

from restfigures.errors import RestError

# Six primes below 10 ** 6, and above them 10 ** 6 itself and three more that share no part with anything here.
GREATEST_KEPT = [999983, 999931, 999979, 999953, 999961, 999959]
GREATEST_SPARE = [999999, 10 ** 6, 999991, 999997]

# Pairs (kept, spare), each a base small enough that every number that fits it can be walked through.
SMALL_BASES = (
    ((2,), ()),
    ((3,), ()),
    ((10,), (11,)),
    ((3, 5, 7), ()),
    ((7, 3, 5), (11,)),
    ((5, 2), (9, 7)),
    ((4, 9, 5), (11, 49, 13)),
    ((3, 2), (7, 5, 13, 11)),
    ((7, 3, 5, 2), (17, 11, 19, 13)),
    ((5, 3, 13, 2, 11, 7), ()),
)


class RefusalCase(unittest.TestCase):
    def assert_refused(self, error, call, *given):
        """The call raises the error's very class, and leaves the lists handed in as they were."""
        before = [list(one) if isinstance(one, list) else one for one in given]
        with self.assertRaises(RestError) as caught:
            call(*given)
        self.assertIs(type(caught.exception), error)
        self.assertEqual(list(given), before)


def product_of(numbers):
    product = 1
    for number in numbers:
        product *= number
    return product


def fitting(base):
    """The numbers that fit, by the words of point 3 and not by the program's own answers."""
    span = product_of(base[0])
    return range(-((span - 1) // 2), span // 2 + 1)
