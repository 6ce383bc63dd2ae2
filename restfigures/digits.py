"""Digits and order: how great the number of a right figure is."""

from restfigures.bases import span_of
from restfigures.figures import number_of, numbers_of


def digits(base, figure):
    # The rest by the span is the number itself or, below 0, the number and the span together.
    left = number_of(base, figure) % span_of(base)
    told = []
    for divisor in base[0]:
        told.append(left % divisor)
        left = left // divisor
    return told


def sign(base, figure):
    return sign_of(number_of(base, figure))


def compared(base, one, other):
    numbers = numbers_of(base, [one, other])
    return sign_of(numbers[0] - numbers[1])


def sign_of(number):
    if number < 0:
        return -1
    if number > 0:
        return 1
    return 0
