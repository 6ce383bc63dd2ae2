"""Point 13: row products and table products."""

import copy
import itertools
import random
import unittest

from restfigures.errors import BadFigure, TooGreat, Unlike, Wrong
from restfigures.tables import row_product, table_product
from tests.helpers import (GREAT_BASES, PAIR_BASES, SMALL_BASES, RefusalCase, drawn, ends, fits_by_words, fitting,
                           no_figures, rests, wrong_figures)

BASE = ((3, 5, 7), (11,))


def row_of(base, numbers):
    return [rests(base, number) for number in numbers]


def table_of(base, rows):
    return [row_of(base, row) for row in rows]


def sum_in_whole_numbers(ones, others):
    total = 0
    for place, number in enumerate(ones):
        total += number * others[place]
    return total


def product_in_whole_numbers(one, other):
    """Entry by entry, by the words of point 13."""
    told = []
    for i in range(len(one)):
        told.append([])
        for j in range(len(other[0])):
            told[i].append(sum_in_whole_numbers(one[i], [row[j] for row in other]))
    return told


def drawn_rows(source, count, length, low, high):
    return [[source.randint(low, high) for place in range(length)] for row in range(count)]


class RowProductTest(RefusalCase):
    def assert_row_product(self, base, ones, others):
        want = sum_in_whole_numbers(ones, others)
        if fits_by_words(base, want):
            self.assert_told(row_product(base, row_of(base, ones), row_of(base, others)), rests(base, want))
        else:
            self.assert_refused(TooGreat, row_product, base, row_of(base, ones), row_of(base, others))

    def test_ordinary_rows(self):
        self.assert_told(row_product(BASE, row_of(BASE, [2, 3]), row_of(BASE, [4, 5])), rests(BASE, 23))
        self.assert_told(row_product(BASE, row_of(BASE, [2, -3, 1]), row_of(BASE, [4, 5, 0])), rests(BASE, -7))

    def test_empty_rows(self):
        for base in SMALL_BASES + GREAT_BASES:
            with self.subTest(base=base):
                self.assert_told(row_product(base, [], []), rests(base, 0))
                empty = []
                self.assert_told(row_product(base, empty, empty), rests(base, 0))
                self.assertEqual(empty, [])

    def test_rows_of_one_figure(self):
        for base in PAIR_BASES:
            with self.subTest(base=base):
                for one, other in itertools.product(fitting(base), repeat=2):
                    self.assert_row_product(base, [one], [other])

    def test_rows_of_two_figures(self):
        for base in (((2,), ()), ((3,), ()), ((5, 2), (9, 7)), ((3, 2), (7, 5))):
            with self.subTest(base=base):
                for numbers in itertools.product(fitting(base), repeat=4):
                    self.assert_row_product(base, list(numbers[:2]), list(numbers[2:]))

    def test_rows_of_sixty_figures(self):
        source = random.Random(60)
        for base in GREAT_BASES[:3]:
            low, high = ends(base)
            for bound in (1, 10, 10 ** 16, high // 10 ** 3):
                for length in (59, 60):
                    ones, others = drawn_rows(source, 2, length, -bound, bound)
                    with self.subTest(base=base, bound=bound, length=length):
                        self.assert_row_product(base, ones, others)
        # Sixty fits where the greatest number is 61, and does not where it is 59.
        self.assert_told(row_product(((2, 61), ()), [[1, 1]] * 60, [[1, 1]] * 60), [0, 60])
        self.assert_refused(TooGreat, row_product, ((2, 59), ()), [[1, 1]] * 60, [[1, 1]] * 60)

    def test_longer_rows_than_the_document_bounds(self):
        """Nothing is refused for a length beyond the bound."""
        base = GREAT_BASES[0]
        self.assert_told(row_product(base, row_of(base, range(70)), row_of(base, [1] * 70)), rests(base, 2415))

    def test_drawn_rows(self):
        source = random.Random(13)
        for base in SMALL_BASES + GREAT_BASES:
            numbers = drawn(base, 40) + [number for number in (0, 0, 1, 1, -1, 2, 3) if fits_by_words(base, number)]
            for length in (1, 2, 3, 5, 8):
                with self.subTest(base=base, length=length):
                    for time in range(20):
                        ones = [source.choice(numbers) for place in range(length)]
                        others = [source.choice(numbers) for place in range(length)]
                        self.assert_row_product(base, ones, others)

    def test_what_comes_on_the_way_need_not_fit(self):
        for base in SMALL_BASES[2:] + GREAT_BASES:
            low, high = ends(base)
            with self.subTest(base=base):
                # The first products are too great, by themselves and together, and the last ones take them off again.
                for ones, others, want in (
                    ([high, high - 1], [high, -high + 1], high + high - 1),
                    ([high, 1 - high], [high, high], high),
                    ([high, high, 1 - high, 1 - high], [high, -low, high, -low], high - low),
                    ([high, 1 - high, -1], [high, high, high], 0),
                    ([high, high, 1 - high, 1 - high, -1], [high, high, high, high, high], high),
                ):
                    self.assertEqual(sum_in_whole_numbers(ones, others), want)
                    self.assert_row_product(base, ones, others)

    def test_sums_at_the_ends_and_one_beyond(self):
        for base in SMALL_BASES + GREAT_BASES:
            low, high = ends(base)
            if high < 2:
                continue
            with self.subTest(base=base):
                self.assert_told(row_product(base, row_of(base, [high, 0]), row_of(base, [1, 1])), rests(base, high))
                self.assert_refused(TooGreat, row_product, base, row_of(base, [high, 1]), row_of(base, [1, 1]))
                self.assert_told(row_product(base, row_of(base, [low, 0]), row_of(base, [1, 1])), rests(base, low))
                self.assert_refused(TooGreat, row_product, base, row_of(base, [low, -1]), row_of(base, [1, 1]))
                self.assert_refused(TooGreat, row_product, base, row_of(base, [1, low]), row_of(base, [-1, 1]))
                self.assert_told(row_product(base, row_of(base, [high, 1, -1]), row_of(base, [1, 1, 1])),
                                 rests(base, high))

    def test_one_row_as_both_and_one_figure_at_two_places(self):
        row = row_of(BASE, [2, -3, 4])
        self.assert_told(row_product(BASE, row, row), rests(BASE, 29))
        self.assertEqual(row, row_of(BASE, [2, -3, 4]))
        figure = rests(BASE, 3)
        self.assert_told(row_product(BASE, [figure, figure], [figure, figure]), rests(BASE, 18))
        self.assertEqual(figure, rests(BASE, 3))


class TableProductTest(RefusalCase):
    def assert_table_product(self, base, one, other):
        want = product_in_whole_numbers(one, other)
        given = (table_of(base, one), table_of(base, other))
        if all(fits_by_words(base, number) for row in want for number in row):
            self.assert_told(table_product(base, *given), table_of(base, want))
            self.assertEqual(given, (table_of(base, one), table_of(base, other)))
        else:
            self.assert_refused(TooGreat, table_product, base, *given)

    def test_ordinary_tables(self):
        one = table_of(BASE, [[1, 2], [3, 4]])
        other = table_of(BASE, [[5, 6], [-1, 0]])
        self.assert_told(table_product(BASE, one, other), table_of(BASE, [[3, 6], [11, 18]]))
        self.assert_told(table_product(BASE, other, one), table_of(BASE, [[23, 34], [-1, -2]]))

    def test_tables_that_are_not_square(self):
        one = table_of(BASE, [[1, 2, 3]])
        other = table_of(BASE, [[4], [5], [6]])
        self.assert_told(table_product(BASE, one, other), table_of(BASE, [[32]]))
        self.assert_told(table_product(BASE, other, one), table_of(BASE, [[4, 8, 12], [5, 10, 15], [6, 12, 18]]))

    def test_every_shape_from_one_to_eight(self):
        source = random.Random(8)
        for rows, length, columns in itertools.product(range(1, 9), repeat=3):
            one = drawn_rows(source, rows, length, -99, 99)
            other = drawn_rows(source, length, columns, -99, 99)
            with self.subTest(rows=rows, length=length, columns=columns):
                self.assert_table_product(((999983, 2, 7), (999991,)), one, other)

    def test_drawn_tables(self):
        source = random.Random(88)
        for base in SMALL_BASES + GREAT_BASES:
            low, high = ends(base)
            for time in range(30):
                rows, length, columns = [source.randint(1, 4) for side in range(3)]
                bound = source.choice((1, 2, 3, high))
                one = drawn_rows(source, rows, length, max(low, -bound), min(high, bound))
                other = drawn_rows(source, length, columns, -1 if low < 0 else 0, 1)
                with self.subTest(base=base, one=one, other=other):
                    self.assert_table_product(base, one, other)

    def test_every_product_of_two_by_two_tables_of_a_small_base(self):
        base = ((3,), (4,))
        tables = [[numbers[:2], numbers[2:]] for numbers in itertools.product(fitting(base), repeat=4)]
        for one, other in itertools.product(tables, repeat=2):
            self.assert_table_product(base, one, other)

    def test_great_tables(self):
        source = random.Random(888)
        for base in GREAT_BASES[:3]:
            one = drawn_rows(source, 8, 8, -10 ** 17, 10 ** 17)
            other = drawn_rows(source, 8, 8, -10 ** 17, 10 ** 17)
            with self.subTest(base=base):
                self.assert_table_product(base, one, other)

    def test_one_entry_too_great(self):
        low, high = ends(BASE)
        for i, j in itertools.product(range(3), repeat=2):
            one = [[0, 0], [0, 0], [0, 0]]
            other = [[0, 0, 0], [0, 0, 0]]
            one[i] = [1, 1]
            for number, beside, want in ((high, 0, True), (high, 1, False), (low, 0, True), (low, -1, False)):
                other[0][j] = number
                other[1][j] = beside
                with self.subTest(i=i, j=j, number=number, beside=beside):
                    self.assertEqual(want, fits_by_words(BASE, number + beside))
                    self.assert_table_product(BASE, one, other)

    def test_what_comes_on_the_way_need_not_fit(self):
        one = [[52, 52, -52], [-52, 52, 0]]
        other = [[52, 1], [-1, 1], [51, 1]]
        self.assertEqual(product_in_whole_numbers(one, other), [[0, 52], [-2756, 0]])
        self.assert_table_product(BASE, one[:1], other)
        self.assert_told(table_product(BASE, table_of(BASE, one[:1]), table_of(BASE, other)),
                         table_of(BASE, [[0, 52]]))
        self.assert_table_product(BASE, one, other)

    def test_one_table_as_both(self):
        table = table_of(BASE, [[1, 2], [3, -4]])
        self.assert_told(table_product(BASE, table, table), table_of(BASE, [[7, -6], [-9, 22]]))
        self.assertEqual(table, table_of(BASE, [[1, 2], [3, -4]]))

    def test_one_row_and_one_figure_at_two_places(self):
        figure = rests(BASE, 2)
        row = [figure, figure]
        table = [row, row]
        told = table_product(BASE, table, table)
        self.assert_told(told, table_of(BASE, [[8, 8], [8, 8]]))
        told[0][0][0] = 99
        told[1].append("more")
        self.assertEqual(table, table_of(BASE, [[2, 2], [2, 2]]))
        self.assert_told(table_product(BASE, table, table), table_of(BASE, [[8, 8], [8, 8]]))

    def test_what_was_told_may_be_handed_in_again(self):
        table = table_of(BASE, [[1, 1], [0, 1]])
        told = table
        for time in range(10):
            told = table_product(BASE, told, table)
        self.assert_told(told, table_of(BASE, [[1, 11], [0, 1]]))

    def test_no_rows_or_columns(self):
        """Nothing is refused for a length below the bound either."""
        self.assert_told(table_product(BASE, [], []), [])
        self.assert_told(table_product(BASE, [], table_of(BASE, [[1, 2]])), [])
        self.assert_told(table_product(BASE, [[], []], []), [[], []])
        self.assert_told(table_product(BASE, table_of(BASE, [[1, 2]]), [[], []]), [[]])

    def test_nine_rows_and_columns(self):
        """Nothing is refused for a length beyond the bound."""
        one = [[1] * 9 for row in range(9)]
        self.assert_table_product(BASE, one, one)


class OwnTablesTest(RefusalCase):
    def test_no_two_lists_told_are_one_and_the_same(self):
        one = table_of(BASE, [[1, 1], [1, 1]])
        other = table_of(BASE, [[1, 0], [0, 1]])
        told = table_product(BASE, one, other)
        again = table_product(BASE, one, other)
        self.assert_told(told, one)
        every = []
        for table in (told, again, one, other):
            every += [table] + table + [figure for row in table for figure in row]
        self.assertEqual(len({id(part) for part in every}), len(every))

    def test_a_table_told_and_changed_is_told_anew_as_it_was(self):
        one = table_of(BASE, [[1, 2], [3, 4]])
        other = table_of(BASE, [[1, 0], [0, 1]])
        told = table_product(BASE, one, other)
        want = copy.deepcopy(told)
        told[0][0].append(5)
        told[0].append([])
        told.append([])
        self.assertEqual(one, table_of(BASE, [[1, 2], [3, 4]]))
        self.assertEqual(other, table_of(BASE, [[1, 0], [0, 1]]))
        self.assert_told(table_product(BASE, one, other), want)

    def test_tables_handed_in_and_changed_leave_what_was_told(self):
        one = table_of(BASE, [[1, 2], [3, 4]])
        other = table_of(BASE, [[1, 0], [0, 1]])
        told = table_product(BASE, one, other)
        one[0][0][0] = 2
        one[1].append([])
        other.append([])
        self.assert_told(told, table_of(BASE, [[1, 2], [3, 4]]))

    def test_a_row_product_told_is_the_askers_own(self):
        one = row_of(BASE, [8])
        other = row_of(BASE, [1])
        told = row_product(BASE, one, other)
        self.assert_told(told, one[0])
        told.append(7)
        self.assertEqual((one, other), (row_of(BASE, [8]), row_of(BASE, [1])))
        self.assert_told(row_product(BASE, one, other), rests(BASE, 8))
        empty = row_product(BASE, [], [])
        empty.append(7)
        self.assert_told(row_product(BASE, [], []), rests(BASE, 0))


RIGHT = rests(BASE, 1)
WRONG = [1, 1, 1, 2]
NO_FIGURE = [1, 1, 1, 11]


class UnlikeTest(RefusalCase):
    def test_rows_that_are_not_as_long(self):
        for one, other in itertools.product((0, 1, 2, 3, 59, 60, 61), repeat=2):
            if one != other:
                for figure in (RIGHT, WRONG, NO_FIGURE, []):
                    with self.subTest(one=one, other=other, figure=figure):
                        self.assert_refused(Unlike, row_product, BASE, [figure] * one, [figure] * other)
                        self.assert_refused(Unlike, row_product, BASE, [figure] * one, [RIGHT] * other)
                        self.assert_refused(Unlike, row_product, BASE, [RIGHT] * one, [figure] * other)

    def test_rows_that_are_not_as_long_and_whose_answer_would_not_fit(self):
        self.assert_refused(Unlike, row_product, BASE, row_of(BASE, [52, 52]), row_of(BASE, [52, 52, 52]))

    def test_tables_whose_rows_and_columns_are_unlike(self):
        for rows, length, others, columns in itertools.product((1, 2, 3, 8), repeat=4):
            if length != others:
                for figure in (RIGHT, WRONG, NO_FIGURE, []):
                    one = [[figure] * length for row in range(rows)]
                    other = [[figure] * columns for row in range(others)]
                    with self.subTest(one=(rows, length), other=(others, columns), figure=figure):
                        self.assert_refused(Unlike, table_product, BASE, one, other)
                        self.assert_refused(Unlike, table_product, BASE, [[RIGHT] * length] * rows, other)
                        self.assert_refused(Unlike, table_product, BASE, one, [[RIGHT] * columns] * others)

    def test_tables_with_two_rows_that_are_not_as_long(self):
        for figure in (RIGHT, WRONG, NO_FIGURE):
            square = [[figure, RIGHT], [RIGHT, RIGHT]]
            for uneven in ([[RIGHT, RIGHT], [RIGHT]], [[RIGHT], [RIGHT, RIGHT]], [[RIGHT, RIGHT], [RIGHT] * 3]):
                with self.subTest(figure=figure, uneven=uneven):
                    self.assert_refused(Unlike, table_product, BASE, uneven, square)
                    self.assert_refused(Unlike, table_product, BASE, square, uneven)

    def test_of_like_tables_the_other_way_round_is_unlike(self):
        one = table_of(BASE, [[1, 2, 3], [4, 5, 6]])
        other = table_of(BASE, [[1], [2], [3]])
        self.assert_told(table_product(BASE, one, other), table_of(BASE, [[14], [32]]))
        self.assert_refused(Unlike, table_product, BASE, other, one)


class OrderOfRefusalsTest(RefusalCase):
    def test_no_figure_at_each_place_of_a_row(self):
        for base in (BASE, ((5, 2), (9, 7)), GREAT_BASES[0]):
            for figure in no_figures(base)[::3]:
                for place in range(3):
                    row = row_of(base, [1, 0, 1])
                    row[place] = figure
                    with self.subTest(base=base, figure=figure[:12], place=place):
                        self.assert_refused(BadFigure, row_product, base, row, row_of(base, [0, 1, 0]))
                        self.assert_refused(BadFigure, row_product, base, row_of(base, [0, 1, 0]), row)

    def test_not_right_at_each_place_of_a_row(self):
        for base in (BASE, ((5, 2), (9, 7)), GREAT_BASES[0]):
            for figure in wrong_figures(base)[::3]:
                for place in range(3):
                    row = row_of(base, [1, 0, 1])
                    row[place] = figure
                    with self.subTest(base=base, figure=figure, place=place):
                        self.assert_refused(Wrong, row_product, base, row, row_of(base, [0, 1, 0]))
                        self.assert_refused(Wrong, row_product, base, row_of(base, [0, 1, 0]), row)

    def test_no_figure_behind_or_ahead_of_one_that_is_not_right(self):
        """Four figures of two rows, or of two tables: one is not right, one is no figure."""
        for wrong, bad in itertools.permutations(range(4), 2):
            figures = [RIGHT] * 4
            figures[wrong] = WRONG
            figures[bad] = NO_FIGURE
            with self.subTest(wrong=wrong, bad=bad):
                self.assert_refused(BadFigure, row_product, BASE, figures[:2], figures[2:])
                self.assert_refused(BadFigure, table_product, BASE, [figures[:2]], [[figures[2]], [figures[3]]])
                self.assert_refused(BadFigure, table_product, BASE, [[figures[0]], [figures[1]]], [figures[2:]])

    def test_each_two_places_of_two_tables(self):
        for wrong, bad in itertools.permutations(range(8), 2):
            figures = row_of(BASE, [52] * 8)
            figures[wrong] = WRONG
            for figure, error in ((NO_FIGURE, BadFigure), (rests(BASE, 52), Wrong)):
                figures[bad] = figure
                with self.subTest(wrong=wrong, bad=bad, figure=figure):
                    self.assert_refused(error, table_product, BASE, [figures[:2], figures[2:4]],
                                        [figures[4:6], figures[6:]])

    def test_wrong_ahead_of_too_great(self):
        for place in range(4):
            figures = row_of(BASE, [52] * 4)
            self.assert_refused(TooGreat, row_product, BASE, figures[:2], figures[2:])
            self.assert_refused(TooGreat, table_product, BASE, [figures[:2]], [[figures[2]], [figures[3]]])
            for figure, error in ((WRONG, Wrong), (NO_FIGURE, BadFigure)):
                figures[place] = figure
                with self.subTest(place=place, figure=figure):
                    self.assert_refused(error, row_product, BASE, figures[:2], figures[2:])
                    self.assert_refused(error, table_product, BASE, [figures[:2]], [[figures[2]], [figures[3]]])

    def test_a_wrong_figure_beside_noughts(self):
        """It is refused though nothing comes of it."""
        self.assert_refused(Wrong, row_product, BASE, [WRONG], [rests(BASE, 0)])
        self.assert_refused(Wrong, table_product, BASE, [[rests(BASE, 0)]], [[WRONG]])
        self.assert_refused(BadFigure, row_product, BASE, [NO_FIGURE], [rests(BASE, 0)])


class NamesTest(RefusalCase):
    def test_arguments_by_name(self):
        one = row_of(BASE, [2, 3])
        other = row_of(BASE, [4, 5])
        self.assert_told(row_product(other=other, one=one, base=BASE), rests(BASE, 23))
        self.assert_told(table_product(other=[[figure] for figure in other], one=[one], base=BASE),
                         [[rests(BASE, 23)]])


if __name__ == "__main__":
    unittest.main()
