"""Point 5: what is refused first, of every function that takes figures."""

import itertools
import random
import unittest

from restfigures.change import put_in, taken_out
from restfigures.deeds import added, multiplied, quotient, rest, scaled, taken, turned
from restfigures.digits import compared, digits, sign
from restfigures.errors import BadBase, BadDivisor, BadFigure, BadPlace, TooGreat, Wrong
from restfigures.figures import number_of
from tests.helpers import GREAT_BASES, RefusalCase, ends, fits_by_words, made_wrong, rests

BASES = (
    ((2,), (3,)),
    ((10,), (11,)),
    ((7, 3, 5), (11,)),
    ((5, 2), (9, 7)),
    ((4, 9, 5), (11, 49, 13)),
    ((3, 2), (7, 5, 13, 11)),
    GREAT_BASES[0],
    GREAT_BASES[1],
)

# What stands behind the figure is right in some of these, and refused in the others.
OF_ONE = (
    (number_of, ()),
    (digits, ()),
    (sign, ()),
    (turned, ()),
    (quotient, (2,)),
    (quotient, (0,)),
    (quotient, (-5,)),
    (rest, (2,)),
    (rest, (0,)),
    (rest, (-5,)),
    (scaled, ([],)),
    (scaled, ([0],)),
    (scaled, ([-1],)),
    (scaled, ([0, 0],)),
    (scaled, ([10],)),
    (put_in, ([], [])),
    (put_in, ([0], [])),
    (put_in, ([], [1])),
    (put_in, ([17] * 8, [])),
    (taken_out, ([],)),
    (taken_out, ([-1],)),
    (taken_out, ([0, 0],)),
    (taken_out, ([10],)),
    (taken_out, ([0],)),
    (taken_out, ([0, 1],)),
)

OF_TWO = (compared, added, taken, multiplied)


def no_figures(base):
    """Lists that are no figures: too long, too short, empty, or with a rest that is its divisor, more, or below 0."""
    one = rests(base, 1)
    told = [[], one[:-1], one[1:], one + [0], [0] + one, one + one, [0] * 1000, one[:len(base[0])]]
    for place, divisor in enumerate(base[0] + base[1]):
        for off in (divisor, divisor + 1, -1, 10 ** 60 - 1, 1 - 10 ** 60):
            figure = rests(base, 1)
            figure[place] = off
            told.append(figure)
    # No figure, and not right either by the rests at the other places.
    told.append([0] + one[1:-1] + [-1])
    return told


def wrong_figures(base):
    """Figures that are not right: one place wrong, each in turn, all spare ones wrong, and numbers one beyond."""
    source = random.Random(5)
    kept = len(base[0])
    count = kept + len(base[1])
    low, high = ends(base)
    told = [rests(base, low - 1), rests(base, high + 1)]
    for number in (low, 0, 1, high):
        told += [made_wrong(source, base, number, [place]) for place in range(count)]
        told.append(made_wrong(source, base, number, range(kept, count)))
    return told


class OfOneFigureTest(RefusalCase):
    def test_bad_figure_ahead_of_all(self):
        for base in BASES:
            for call, behind in OF_ONE:
                for figure in no_figures(base):
                    with self.subTest(base=base, call=call.__name__, figure=figure[:12], behind=behind):
                        self.assert_refused(BadFigure, call, base, figure, *behind)

    def test_wrong_ahead_of_what_else(self):
        for base in BASES:
            for call, behind in OF_ONE:
                for figure in wrong_figures(base):
                    with self.subTest(base=base, call=call.__name__, figure=figure, behind=behind):
                        self.assert_refused(Wrong, call, base, figure, *behind)

    def test_what_else_is_refused_then(self):
        """So the two tests above stand on refusals that are there."""
        base = ((5, 2), (9, 7))
        for number in (1, 5, -4):
            figure = rests(base, number)
            for error, call, behind in (
                (BadDivisor, quotient, (0,)), (BadDivisor, rest, (-5,)), (BadPlace, scaled, ([-1],)),
                (BadPlace, scaled, ([10],)), (BadPlace, scaled, ([0, 0],)), (BadBase, put_in, ([0], [])),
                (BadBase, put_in, ([], [1])), (BadBase, put_in, ([17] * 8, [])), (BadPlace, taken_out, ([-1],)),
                (BadPlace, taken_out, ([0, 0],)), (BadPlace, taken_out, ([10],)), (BadBase, taken_out, ([0, 1],)),
            ):
                with self.subTest(number=number, call=call.__name__, behind=behind):
                    self.assert_refused(error, call, base, figure, *behind)
        self.assert_refused(TooGreat, taken_out, base, rests(base, 5), [0])
        self.assert_refused(TooGreat, turned, base, rests(base, 5))


class OfTwoFiguresTest(RefusalCase):
    def assert_both_refused(self, error, base, one, other):
        for call in OF_TWO:
            with self.subTest(base=base, call=call.__name__, one=one[:12], other=other[:12]):
                self.assert_refused(error, call, base, one, other)

    def test_no_figure_beside_a_right_one(self):
        for base in BASES:
            for figure in no_figures(base):
                for number in (1,) + ends(base):
                    self.assert_both_refused(BadFigure, base, figure, rests(base, number))
                    self.assert_both_refused(BadFigure, base, rests(base, number), figure)

    def test_no_figure_as_both(self):
        for base in BASES:
            for figure in no_figures(base):
                self.assert_both_refused(BadFigure, base, figure, figure)
                self.assert_both_refused(BadFigure, base, figure, list(figure))
                self.assert_both_refused(BadFigure, base, figure, [])

    def test_no_figure_beside_one_that_is_not_right(self):
        for base in BASES:
            for figure, wrong in itertools.product(no_figures(base), wrong_figures(base)[::5]):
                self.assert_both_refused(BadFigure, base, figure, wrong)
                self.assert_both_refused(BadFigure, base, wrong, figure)

    def test_not_right_beside_a_right_one(self):
        for base in BASES:
            for wrong in wrong_figures(base):
                for number in (1,) + ends(base):
                    self.assert_both_refused(Wrong, base, wrong, rests(base, number))
                    self.assert_both_refused(Wrong, base, rests(base, number), wrong)

    def test_not_right_as_both(self):
        for base in BASES:
            for wrong in wrong_figures(base):
                self.assert_both_refused(Wrong, base, wrong, wrong)
                self.assert_both_refused(Wrong, base, wrong, wrong_figures(base)[0])

    def test_too_great_comes_last(self):
        for base in BASES:
            low, high = ends(base)
            self.assertFalse(fits_by_words(base, high + high))
            self.assert_refused(TooGreat, added, base, rests(base, high), rests(base, high))


if __name__ == "__main__":
    unittest.main()
