"""Deeds: sums, differences, products, quotients and rests of the numbers of right figures."""

from restfigures.bases import product_of, refuse_bad_places
from restfigures.errors import BadDivisor
from restfigures.figures import figure_of, number_of, numbers_of


def added(base, one, other):
    numbers = numbers_of(base, [one, other])
    return figure_of(base, numbers[0] + numbers[1])


def taken(base, one, other):
    numbers = numbers_of(base, [one, other])
    return figure_of(base, numbers[0] - numbers[1])


def multiplied(base, one, other):
    numbers = numbers_of(base, [one, other])
    return figure_of(base, numbers[0] * numbers[1])


def turned(base, one):
    return figure_of(base, -number_of(base, one))


def quotient(base, figure, by):
    return figure_of(base, number_to_divide(base, figure, by) // by)


def rest(base, figure, by):
    return number_to_divide(base, figure, by) % by


def number_to_divide(base, figure, by):
    # The figure is refused ahead of what it is to be divided by.
    number = number_of(base, figure)
    if by < 1:
        raise BadDivisor("a number to divide by is from 1 up")
    return number


def scaled(base, figure, places):
    number = number_of(base, figure)
    kept = base[0]
    # Spare divisors have no part in the span, so their places are refused too.
    refuse_bad_places(places, len(kept))
    return figure_of(base, number // product_of([kept[place] for place in places]))
