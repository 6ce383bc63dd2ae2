"""Figures: lists of a number's rests by all divisors of a base, and how the number comes out of one."""

from restfigures.bases import divisors_of, fits
from restfigures.errors import BadFigure, TooGreat, Wrong


def figure_of(base, number):
    if not fits(base, number):
        raise TooGreat("the number does not fit the base")
    return rests_of(base, number)


def number_of(base, figure):
    if not is_right(base, figure):
        raise Wrong("the figure is that of no number that fits the base")
    return number_by_kept(base, figure)


def numbers_of(base, figures):
    # Each is looked at for BadFigure ahead of all for Wrong.
    refuse_no_figures(base, figures)
    return [number_of(base, figure) for figure in figures]


def is_right(base, figure):
    refuse_no_figure(base, figure)
    return rests_of(base, number_by_kept(base, figure)) == figure


def rests_of(base, number):
    return [number % divisor for divisor in divisors_of(base)]


def refuse_no_figures(base, figures):
    for figure in figures:
        refuse_no_figure(base, figure)


def refuse_no_figure(base, figure):
    divisors = divisors_of(base)
    if len(figure) != len(divisors):
        raise BadFigure("a figure has as many rests as the base has divisors")
    for rest, divisor in zip(figure, divisors):
        if not 0 <= rest < divisor:
            raise BadFigure("a rest is from 0 to its divisor less one")


def number_by_kept(base, figure):
    # Just one number that fits has these rests by the kept divisors, so the spare rests need no look here.
    return number_by_rests(base[0], figure[:len(base[0])])


def number_by_rests(divisors, rests):
    number = 0
    step = 1
    for rest, divisor in zip(rests, divisors):
        # step is a multiple of the divisors already walked, so the rests by those stay as they are.
        steps = (rest - number) * inverse(step, divisor) % divisor
        number = number + steps * step
        step = step * divisor
    # step is the product of all divisors now, and the answer is the one that would fit with this as the span.
    if number > step // 2:
        return number - step
    return number


def inverse(number, divisor):
    left = number % divisor
    if left == 1:
        return 1
    # left * answer = divisor * times + 1: times is the same thing asked of the lesser numbers divisor and left.
    times = left - inverse(divisor, left)
    return (divisor * times + 1) // left
