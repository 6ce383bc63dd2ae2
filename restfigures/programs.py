"""Programs: lists of rows that give names values, their runs, their bounds, and whether all their answers fit."""

from restfigures.bases import fits
from restfigures.errors import BadInput, RowTooGreat
from restfigures.figures import figure_of

MOST_ROWS = 60
MOST_INPUTS = 6
MOST_PRODUCTS = 6
LONGEST_NAME = 8
LETTERS = "abcdefghijklmnopqrstuvwxyz"


def run(base, program, inputs):
    values = values_of_inputs(program, inputs)
    told = []
    for number, row in enumerate(program, start=1):
        value = value_of(row, values)
        if not fits(base, value):
            raise RowTooGreat(number)
        values[row[1]] = value
        told.append((row[1], figure_of(base, value)))
    return told


def values_of_inputs(program, inputs):
    rows = rows_of(program, "in")
    if len(rows) != len(inputs):
        raise BadInput("there is one number for each input of the program")
    for row, number in zip(rows, inputs):
        if not row[2] <= number <= row[3]:
            raise BadInput("an input lies within its bounds")
    return dict([(row[1], number) for row, number in zip(rows, inputs)])


def rows_of(program, deed):
    return [row for row in program if row[0] == deed]


def value_of(row, values):
    if row[0] == "in":
        return values[row[1]]
    if row[0] == "num":
        return row[2]
    if row[0] == "div":
        return values[row[2]] // row[3]
    return done(row[0], values[row[2]], values[row[3]])


def done(deed, one, other):
    if deed == "add":
        return one + other
    if deed == "take":
        return one - other
    return one * other


def bounds(program):
    known = {}
    told = []
    for row in program:
        pair = bounds_of_row(row, known)
        known[row[1]] = pair
        told.append((row[1], pair[0], pair[1]))
    return told


def bounds_of_row(row, known):
    if row[0] == "in":
        return (row[2], row[3])
    if row[0] == "num":
        return (row[2], row[2])
    if row[0] == "div":
        # A greater number never has a lesser quotient, so the ends stay in their order.
        pair = known[row[2]]
        return (pair[0] // row[3], pair[1] // row[3])
    ends = []
    for one in known[row[2]]:
        ends.extend([done(row[0], one, other) for other in known[row[3]]])
    return (min(ends), max(ends))


def looked(base, program):
    if all([fits(base, low) and fits(base, high) for name, low, high in bounds(program)]):
        return ("fits", [], 0)
    for inputs in inputs_at_ends(program):
        row = row_too_great(base, program, inputs)
        if row is not None:
            return ("not", inputs, row)
    return ("open", [], 0)


def inputs_at_ends(program):
    told = [[]]
    for row in rows_of(program, "in"):
        longer = []
        # Each earlier choice stands by both ends before the next one, so the last input changes first.
        for chosen in told:
            longer.append(chosen + [row[2]])
            longer.append(chosen + [row[3]])
        told = longer
    return told


def row_too_great(base, program, inputs):
    try:
        run(base, program, inputs)
    except RowTooGreat as refusal:
        return refusal.row
    return None


def can_follow(program, row):
    return has_room(program, row[0]) and has_right_names(program, row) and has_right_numbers(row)


def has_room(program, deed):
    if len(program) >= MOST_ROWS:
        return False
    if deed == "in":
        return len(rows_of(program, "in")) < MOST_INPUTS
    if deed == "mul":
        return len(rows_of(program, "mul")) < MOST_PRODUCTS
    return True


def has_right_names(program, row):
    given = [earlier[1] for earlier in program]
    return is_name(row[1]) and row[1] not in given and all([name in given for name in names_read(row)])


def is_name(word):
    # In a program's text the word in begins an input's row, so it is no name.
    return 1 <= len(word) <= LONGEST_NAME and all([letter in LETTERS for letter in word]) and word != "in"


def names_read(row):
    if row[0] == "in" or row[0] == "num":
        return []
    if row[0] == "div":
        return [row[2]]
    return [row[2], row[3]]


def has_right_numbers(row):
    if row[0] == "in":
        return row[2] <= row[3]
    if row[0] == "div":
        return row[3] >= 1
    return True
