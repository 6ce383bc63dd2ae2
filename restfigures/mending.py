"""Mending: wrong places of a figure found and mended by the spare divisors."""

from restfigures.bases import divisors_of, fits
from restfigures.figures import number_by_rests, refuse_no_figure, rests_of


def mended(base, figure):
    refuse_no_figure(base, figure)
    for places in choices(len(figure), len(base[1]) // 2):
        # As each spare divisor is greater than each kept one, the places left span at least what the kept ones do:
        # a number that fits and is like the figure at all of them is the one that they give.
        number = number_without(base, figure, places)
        if fits(base, number):
            return found(base, figure, number)
    return ("lost", None, [])


def found(base, figure, number):
    unlike = [place for place, rest in enumerate(rests_of(base, number)) if rest != figure[place]]
    if unlike == []:
        return ("right", number, unlike)
    return ("mended", number, unlike)


def number_without(base, figure, places):
    divisors = divisors_of(base)
    left = [place for place in range(len(divisors)) if place not in places]
    return number_by_rests([divisors[place] for place in left], [figure[place] for place in left])


def choices(count, size):
    if size == 0:
        return [[]]
    told = []
    for last in range(count):
        for ahead in choices(last, size - 1):
            told.append(ahead + [last])
    return told
