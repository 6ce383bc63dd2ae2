"""Point 5: what is refused first, of every function that takes figures."""

import itertools
import unittest

from restfigures.change import put_in, taken_out
from restfigures.deeds import added, multiplied, quotient, rest, scaled, taken, turned
from restfigures.digits import compared, digits, sign
from restfigures.errors import BadBase, BadDivisor, BadFigure, BadPlace, TooGreat, Wrong
from restfigures.figures import number_of
from restfigures.tables import row_product, table_product
from restfigures.texts import figure_text, written
from tests.helpers import GREAT_BASES, RefusalCase, ends, fits_by_words, no_figures, rests, wrong_figures

BASES = (
    ((2,), (3,)),
    ((10,), (11,)),
    ((7, 3, 5), (11,)),
    ((5, 2), (9, 7)),
    ((4, 9, 5), (11, 49, 13)),
    ((3, 2), (7, 5, 13, 11)),
    GREAT_BASES[0],
    GREAT_BASES[1],
)

# What stands behind the figure is right in some of these, and refused in the others.
OF_ONE = (
    (number_of, ()),
    (digits, ()),
    (sign, ()),
    (turned, ()),
    (quotient, (2,)),
    (quotient, (0,)),
    (quotient, (-5,)),
    (rest, (2,)),
    (rest, (0,)),
    (rest, (-5,)),
    (scaled, ([],)),
    (scaled, ([0],)),
    (scaled, ([-1],)),
    (scaled, ([0, 0],)),
    (scaled, ([10],)),
    (put_in, ([], [])),
    (put_in, ([0], [])),
    (put_in, ([], [1])),
    (put_in, ([17] * 8, [])),
    (taken_out, ([],)),
    (taken_out, ([-1],)),
    (taken_out, ([0, 0],)),
    (taken_out, ([10],)),
    (taken_out, ([0],)),
    (taken_out, ([0, 1],)),
    (written, ()),
)


def row_product_of_one(base, one, other):
    return row_product(base, [one], [other])


def row_product_of_three(base, one, other):
    return row_product(base, [rests(base, 0), one, rests(base, 1)], [rests(base, 1), rests(base, 0), other])


def table_product_of_one(base, one, other):
    return table_product(base, [[one]], [[other]])


def table_product_of_two(base, one, other):
    return table_product(base, [[rests(base, 0)] * 2, [one, rests(base, 1)]], [[other, rests(base, 0)]] * 2)


OF_TWO = (compared, added, taken, multiplied, row_product_of_one, row_product_of_three, table_product_of_one,
          table_product_of_two)


class OfOneFigureTest(RefusalCase):
    def test_bad_figure_ahead_of_all(self):
        for base in BASES:
            for call, behind in OF_ONE:
                for figure in no_figures(base):
                    with self.subTest(base=base, call=call.__name__, figure=figure[:12], behind=behind):
                        self.assert_refused(BadFigure, call, base, figure, *behind)

    def test_wrong_ahead_of_what_else(self):
        for base in BASES:
            for call, behind in OF_ONE:
                for figure in wrong_figures(base):
                    with self.subTest(base=base, call=call.__name__, figure=figure, behind=behind):
                        self.assert_refused(Wrong, call, base, figure, *behind)

    def test_what_else_is_refused_then(self):
        """So the two tests above stand on refusals that are there."""
        base = ((5, 2), (9, 7))
        for number in (1, 5, -4):
            figure = rests(base, number)
            for error, call, behind in (
                (BadDivisor, quotient, (0,)), (BadDivisor, rest, (-5,)), (BadPlace, scaled, ([-1],)),
                (BadPlace, scaled, ([10],)), (BadPlace, scaled, ([0, 0],)), (BadBase, put_in, ([0], [])),
                (BadBase, put_in, ([], [1])), (BadBase, put_in, ([17] * 8, [])), (BadPlace, taken_out, ([-1],)),
                (BadPlace, taken_out, ([0, 0],)), (BadPlace, taken_out, ([10],)), (BadBase, taken_out, ([0, 1],)),
            ):
                with self.subTest(number=number, call=call.__name__, behind=behind):
                    self.assert_refused(error, call, base, figure, *behind)
        self.assert_refused(TooGreat, taken_out, base, rests(base, 5), [0])
        self.assert_refused(TooGreat, turned, base, rests(base, 5))


class OfAnyFigureTest(RefusalCase):
    def test_no_figure_has_no_text(self):
        for base in BASES:
            for figure in no_figures(base):
                with self.subTest(base=base, figure=figure[:12]):
                    self.assert_refused(BadFigure, figure_text, base, figure)

    def test_a_figure_that_is_not_right_has_one(self):
        for base in BASES:
            for figure in wrong_figures(base):
                with self.subTest(base=base, figure=figure):
                    self.assertIs(type(figure_text(base, figure)), str)


class OfTwoFiguresTest(RefusalCase):
    def assert_both_refused(self, error, base, one, other):
        for call in OF_TWO:
            with self.subTest(base=base, call=call.__name__, one=one[:12], other=other[:12]):
                self.assert_refused(error, call, base, one, other)

    def test_no_figure_beside_a_right_one(self):
        for base in BASES:
            for figure in no_figures(base):
                for number in (1,) + ends(base):
                    self.assert_both_refused(BadFigure, base, figure, rests(base, number))
                    self.assert_both_refused(BadFigure, base, rests(base, number), figure)

    def test_no_figure_as_both(self):
        for base in BASES:
            for figure in no_figures(base):
                self.assert_both_refused(BadFigure, base, figure, figure)
                self.assert_both_refused(BadFigure, base, figure, list(figure))
                self.assert_both_refused(BadFigure, base, figure, [])

    def test_no_figure_beside_one_that_is_not_right(self):
        for base in BASES:
            for figure, wrong in itertools.product(no_figures(base), wrong_figures(base)[::5]):
                self.assert_both_refused(BadFigure, base, figure, wrong)
                self.assert_both_refused(BadFigure, base, wrong, figure)

    def test_not_right_beside_a_right_one(self):
        for base in BASES:
            for wrong in wrong_figures(base):
                for number in (1,) + ends(base):
                    self.assert_both_refused(Wrong, base, wrong, rests(base, number))
                    self.assert_both_refused(Wrong, base, rests(base, number), wrong)

    def test_not_right_as_both(self):
        for base in BASES:
            for wrong in wrong_figures(base):
                self.assert_both_refused(Wrong, base, wrong, wrong)
                self.assert_both_refused(Wrong, base, wrong, wrong_figures(base)[0])

    def test_too_great_comes_last(self):
        for base in BASES:
            low, high = ends(base)
            self.assertFalse(fits_by_words(base, high + high))
            self.assert_refused(TooGreat, added, base, rests(base, high), rests(base, high))


if __name__ == "__main__":
    unittest.main()
