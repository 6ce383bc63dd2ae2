"""Bases: tuples (kept, spare) of two tuples of divisors without common parts, and what numbers fit them."""

from restfigures.errors import BadBase, BadPlace

MOST_KEPT = 6
MOST_SPARE = 4
LEAST_DIVISOR = 2
GREATEST_DIVISOR = 1000000


def common(a, b):
    greater = a
    less = b
    while less != 0:
        left = greater % less
        greater = less
        less = left
    return greater


def base_of(kept, spare):
    # The counts come first, so that a list of any length is refused without a walk through it.
    if not 1 <= len(kept) <= MOST_KEPT or len(spare) > MOST_SPARE:
        raise BadBase("a base has one to six kept divisors and none to four spare ones")
    divisors = list(kept) + list(spare)
    if min(divisors) < LEAST_DIVISOR or max(divisors) > GREATEST_DIVISOR:
        raise BadBase("a divisor is from 2 to 10 ** 6")
    if have_common_part(divisors):
        raise BadBase("two divisors of a base have no common part above 1")
    if min(spare, default=GREATEST_DIVISOR + 1) < max(kept):
        raise BadBase("a spare divisor is greater than each kept one")
    return (tuple(kept), tuple(spare))


def have_common_part(divisors):
    # What has no common part with a product has none with any of its factors, so one look for each divisor is enough.
    product = 1
    for divisor in divisors:
        if common(product, divisor) != 1:
            return True
        product = product * divisor
    return False


def divisors_of(base):
    return base[0] + base[1]


def refuse_bad_places(places, count):
    for place in places:
        if not 0 <= place < count:
            raise BadPlace("a place is the number of a divisor that may stand there")
    if len(set(places)) != len(places):
        raise BadPlace("no place stands twice")


def product_of(numbers):
    product = 1
    for number in numbers:
        product = product * number
    return product


def span_of(base):
    return product_of(base[0])


def lowest(base):
    return -((span_of(base) - 1) // 2)


def highest(base):
    return span_of(base) // 2


def fits(base, number):
    return lowest(base) <= number <= highest(base)
