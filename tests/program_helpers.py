"""What the tests of programs share: programs drawn or made, and what the words of points 14 to 17 tell of them."""

import itertools
import operator

from tests.helpers import fits_by_words

OF_TWO = {"add": operator.add, "take": operator.sub, "mul": operator.mul}

SIXTY_NINES = 10 ** 60 - 1


def name_at(place):
    """The name of the row at a place: ba, bb, .. (so none is in)."""
    return "b" + "abcdefghijklmnopqrstuvwxyz"[place % 26] * (1 + place // 26)


def inputs_in(program):
    return [row for row in program if row[0] == "in"]


def values_by_words(program, inputs):
    """The values of all rows in order, in whole numbers."""
    values = {}
    waiting = list(inputs)
    for row in program:
        if row[0] == "in":
            values[row[1]] = waiting.pop(0)
        elif row[0] == "num":
            values[row[1]] = row[2]
        elif row[0] == "div":
            number = values[row[2]]
            # Point 1's words: the quotient counts the multiples that lead from the rest to the number.
            values[row[1]] = (number - number % row[3]) // row[3]
        else:
            values[row[1]] = OF_TWO[row[0]](values[row[2]], values[row[3]])
    return list(values.values())


def first_too_great(base, program, inputs):
    """The number of the first row whose value does not fit, None where all do."""
    for number, value in enumerate(values_by_words(program, inputs), start=1):
        if not fits_by_words(base, value):
            return number
    return None


def all_inputs(program):
    return itertools.product(*[range(row[2], row[3] + 1) for row in inputs_in(program)])


def bounds_by_words(program):
    told = {}
    for row in program:
        if row[0] == "in":
            told[row[1]] = (row[2], row[3])
        elif row[0] == "num":
            told[row[1]] = (row[2], row[2])
        elif row[0] == "div":
            told[row[1]] = tuple(values_by_words([("num", "a", end), ("div", "b", "a", row[3])], [])[1]
                                 for end in told[row[2]])
        else:
            every = [OF_TWO[row[0]](*pair) for pair in itertools.product(told[row[2]], told[row[3]])]
            told[row[1]] = (min(every), max(every))
    return [(name,) + pair for name, pair in told.items()]


def looked_by_words(base, program):
    """A walk over all ends in the order that point 17 tells: the last input changes first, its low ahead."""
    if all(fits_by_words(base, low) and fits_by_words(base, high) for name, low, high in bounds_by_words(program)):
        return ("fits", [], 0)
    for inputs in itertools.product(*[(row[2], row[3]) for row in inputs_in(program)]):
        row = first_too_great(base, program, inputs)
        if row is not None:
            return ("not", list(inputs), row)
    return ("open", [], 0)


def drawn_program(source, rows, widest=4, most_inputs=3, once=False, greatest=6):
    """A program of so many rows; with once, no name stands twice as an a or b."""
    program = []
    unread = []
    for place in range(rows):
        name = name_at(place)
        row = drawn_row(source, program, unread, name, widest, most_inputs, greatest, once)
        if once and row[0] not in ("in", "num"):
            unread.remove(row[2])
            if row[0] != "div":
                unread.remove(row[3])
        program.append(row)
        unread.append(name)
    return program


def drawn_row(source, program, unread, name, widest, most_inputs, greatest, once):
    kinds = ["num"]
    if len(inputs_in(program)) < most_inputs:
        kinds += ["in"] * 3
    names = unread if once else [row[1] for row in program]
    if names:
        kinds += ["div"]
    if len(names) > (1 if once else 0):
        kinds += ["add", "take"] * 2
        if len([row for row in program if row[0] == "mul"]) < 6:
            kinds += ["mul"] * 4
    kind = source.choice(kinds)
    if kind == "in":
        low = source.randint(-greatest, greatest)
        return (kind, name, low, low + source.randint(0, widest))
    if kind == "num":
        return (kind, name, source.randint(-greatest, greatest))
    if kind == "div":
        return (kind, name, source.choice(names), source.randint(1, 4))
    one, other = source.sample(names, 2) if once else (source.choice(names), source.choice(names))
    return (kind, name, one, other)


def greatest_program():
    """Sixty rows, six inputs, six products: as much as point 14 lets stand."""
    program = [("in", name_at(place), -9 - place, 9 + place) for place in range(6)]
    for place in range(6, 12):
        program.append(("mul", name_at(place), name_at(place - 6), name_at(place - 5)))
    for place in range(12, 60):
        deed = ("add", "take")[place % 2]
        program.append((deed, name_at(place), name_at(place - 1), name_at(place - 3)))
    return program
