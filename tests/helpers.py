"""What several tests share: bases to test with, what the document's words tell, and looks at what is told."""

import copy
import random
import unittest

from restfigures.errors import RestError

# Six primes below 10 ** 6, and above them 10 ** 6 itself and three more that share no part with anything here.
GREATEST_KEPT = [999983, 999931, 999979, 999953, 999961, 999959]
GREATEST_SPARE = [999999, 10 ** 6, 999991, 999997]

# Pairs (kept, spare), each a base small enough that every number that fits it can be walked through.
SMALL_BASES = (
    ((2,), ()),
    ((3,), ()),
    ((10,), (11,)),
    ((3, 5, 7), ()),
    ((7, 3, 5), (11,)),
    ((5, 2), (9, 7)),
    ((4, 9, 5), (11, 49, 13)),
    ((3, 2), (7, 5, 13, 11)),
    ((7, 3, 5, 2), (17, 11, 19, 13)),
    ((5, 3, 13, 2, 11, 7), ()),
)


# The same, few enough numbers that every pair of them can be walked through.
PAIR_BASES = (
    ((2,), ()),
    ((3,), ()),
    ((10,), (11,)),
    ((4, 5), (9,)),
    ((5, 2), (9, 7)),
    ((5, 3), (16, 7, 11)),
    ((3, 2), (7, 5, 13, 11)),
    ((7, 3, 5), ()),
)

# Divisors near 10 ** 6 in orders that do not rise, of an odd span and of even ones.
GREAT_BASES = (
    (tuple(GREATEST_KEPT), tuple(GREATEST_SPARE)),
    ((999959, 999809, 999808, 999883, 999907, 999863), (999983, 999961, 999979, 999999)),
    ((10 ** 6, 999983, 999931, 999979, 999953, 999961), ()),
    ((999998,), (999999,)),
)


class RefusalCase(unittest.TestCase):
    def assert_told(self, told, want):
        """What is told is what is wanted, and of its very kinds too (so True is not 1, nor a tuple a list)."""
        self.assertEqual(told, want)
        self.assertEqual(kinds_of(told), kinds_of(want))

    def assert_refused(self, error, call, *given):
        """The call raises the error's very class, and leaves what is handed in as it was; tells the error."""
        before = copy.deepcopy(given)
        with self.assertRaises(RestError) as caught:
            call(*given)
        self.assertIs(type(caught.exception), error)
        self.assertEqual(given, before)
        return caught.exception

    def assert_refused_at(self, error, row, call, *given):
        """The same, of an error that bears a row."""
        self.assert_told(self.assert_refused(error, call, *given).row, row)


def product_of(numbers):
    product = 1
    for number in numbers:
        product *= number
    return product


def fitting(base):
    """The numbers that fit, by the words of point 3 and not by the program's own answers."""
    span = product_of(base[0])
    return range(-((span - 1) // 2), span // 2 + 1)


def fits_by_words(base, number):
    return number in fitting(base)


def rests(base, number):
    """The number's rests by all divisors, whether it fits or not."""
    return [number % divisor for divisor in base[0] + base[1]]


def ends(base):
    return (fitting(base)[0], fitting(base)[-1])


def drawn(base, count):
    """Numbers that fit, the same ones at each run: the ends, those about nought, small ones, and any."""
    source = random.Random(count)
    numbers = fitting(base)
    told = [numbers[0], numbers[0] + 1, -1, 0, 1, numbers[-1] - 1, numbers[-1]]
    while len(told) < count:
        number = source.randrange(numbers[0], numbers[-1] + 1)
        told.append(number // source.choice((1, 1, 1, 10, 10 ** 9, 10 ** 18, 10 ** 27)))
    return [number for number in told if number in numbers]


def made_wrong(source, base, number, places):
    """The number's figure, made wrong at just these places."""
    divisors = base[0] + base[1]
    figure = rests(base, number)
    for place in places:
        figure[place] = (figure[place] + source.randrange(1, divisors[place])) % divisors[place]
    return figure


def no_figures(base):
    """Lists that are no figures: too long, too short, empty, or with a rest that is its divisor, more, or below 0."""
    one = rests(base, 1)
    told = [[], one[:-1], one[1:], one + [0], [0] + one, one + one, [0] * 1000]
    if base[1]:
        told.append(one[:len(base[0])])
    for place, divisor in enumerate(base[0] + base[1]):
        for off in (divisor, divisor + 1, -1, 10 ** 60 - 1, 1 - 10 ** 60):
            figure = rests(base, 1)
            figure[place] = off
            told.append(figure)
    # No figure, and not right either by the rests at the other places.
    told.append([0] + one[1:-1] + [-1])
    return told


def wrong_figures(base):
    """Figures that are not right: one place wrong, each in turn, all spare ones wrong, and numbers one beyond."""
    source = random.Random(5)
    kept = len(base[0])
    count = kept + len(base[1])
    low, high = ends(base)
    told = [rests(base, low - 1), rests(base, high + 1)]
    for number in (low, 0, 1, high):
        told += [made_wrong(source, base, number, [place]) for place in range(count)]
        told.append(made_wrong(source, base, number, range(kept, count)))
    return told


def kinds_of(told):
    if type(told) in (list, tuple):
        return (type(told), [kinds_of(part) for part in told])
    return type(told)
