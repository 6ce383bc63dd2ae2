"""Tables: products of rows and of tables of right figures."""

from restfigures.errors import Unlike
from restfigures.figures import figure_of, numbers_of, refuse_no_figures


def row_product(base, one, other):
    if len(one) != len(other):
        raise Unlike("the two rows are not as long")
    numbers = numbers_of(base, one + other)
    return figure_of(base, sum_of_products(numbers[:len(one)], numbers[len(one):]))


def table_product(base, one, other):
    refuse_unlike_tables(one, other)
    # The figures of both tables are looked at for BadFigure ahead of all for Wrong.
    refuse_no_figures(base, figures_in(one + other))
    rows = [numbers_of(base, row) for row in one]
    columns = columns_of([numbers_of(base, row) for row in other])
    return [told_row(base, row, columns) for row in rows]


def refuse_unlike_tables(one, other):
    for row in one:
        if len(row) != len(other):
            raise Unlike("the one's rows are not as long as the other has rows")
    for row in other:
        if len(row) != len(other[0]):
            raise Unlike("two rows of the other are not as long")


def figures_in(rows):
    figures = []
    for row in rows:
        figures.extend(row)
    return figures


def columns_of(rows):
    columns = []
    for place in range(max([len(row) for row in rows], default=0)):
        columns.append([row[place] for row in rows])
    return columns


def told_row(base, row, columns):
    return [figure_of(base, sum_of_products(row, column)) for column in columns]


def sum_of_products(ones, others):
    # In whole numbers, since what comes on the way need not fit the base.
    return sum([one * other for one, other in zip(ones, others)])
