"""Texts: figures, numbers, bases and programs, written as texts and read from them."""

from restfigures.bases import base_of
from restfigures.errors import BadFigure, BadText
from restfigures.figures import figure_of, number_of, refuse_no_figure
from restfigures.programs import can_follow

MOST_FIGURES = 60
FIGURES = "0123456789"
DEEDS = {"+": "add", "-": "take", "*": "mul"}
SIGNS = {"add": "+", "take": "-", "mul": "*"}


def figure_text(base, figure):
    refuse_no_figure(base, figure)
    words = [number_text(rest) for rest in figure]
    kept = ".".join(words[:len(base[0])])
    if len(base[1]) == 0:
        return kept
    return kept + ":" + ".".join(words[len(base[0]):])


def figure_from(base, text):
    figure = numbers_from(text.replace(":", ".").split("."))
    try:
        again = figure_text(base, figure)
    except BadFigure:
        raise BadText(1) from None
    # Written again, the colon stands where it must, and the points do.
    if again != text:
        raise BadText(1)
    return figure


def written(base, figure):
    return number_text(number_of(base, figure))


def read(base, text):
    return figure_of(base, numbers_from([text])[0])


def number_text(number):
    if number < 0:
        return "-" + number_text(-number)
    # Bounds that were told may have more figures than Python's str writes at once, so they are written in pieces.
    piece = 10 ** 60
    words = []
    left = number
    while left >= piece:
        words.append(str(left % piece).zfill(60))
        left = left // piece
    words.append(str(left))
    return "".join(reversed(words))


def numbers_from(words):
    if not all([is_number(word) for word in words]):
        raise BadText(1)
    return [int(word) for word in words]


def is_number(word):
    figures = word[1:] if word.startswith("-") else word
    if not 1 <= len(figures) <= MOST_FIGURES:
        return False
    # int would take blanks, signs and other digits too, so each sign is looked at here.
    if not all([figure in FIGURES for figure in figures]):
        return False
    return figures[0] != "0" or word == "0"


def base_text(base):
    words = ["base"] + [number_text(divisor) for divisor in base[0]]
    if len(base[1]) > 0:
        words = words + ["spare"] + [number_text(divisor) for divisor in base[1]]
    return " ".join(words)


def base_from(text):
    parts = text.partition(" spare ")
    words = parts[0].split(" ")
    if words[0] != "base" or len(words) == 1:
        raise BadText(1)
    kept = numbers_from(words[1:])
    # Where the word is not there, neither is anything behind it.
    spare = [] if parts[1] == "" else numbers_from(parts[2].split(" "))
    return base_of(kept, spare)


def program_text(program):
    return "\n".join([row_text(row) for row in program])


def row_text(row):
    if row[0] == "in":
        words = ["in", row[1], number_text(row[2]), number_text(row[3])]
    elif row[0] == "num":
        words = [row[1], "=", number_text(row[2])]
    elif row[0] == "div":
        words = [row[1], "=", row[2], "/", number_text(row[3])]
    else:
        words = [row[1], "=", row[2], SIGNS[row[0]], row[3]]
    return " ".join(words)


def program_from(text):
    program = []
    # The empty text has no row, where a split would make one of it.
    lines = [] if text == "" else text.split("\n")
    for number, line in enumerate(lines, start=1):
        row = row_from(line.split(" "))
        if row is None or not can_follow(program, row):
            raise BadText(number)
        program.append(row)
    return program


def row_from(words):
    if len(words) == 4 and words[0] == "in" and is_number(words[2]) and is_number(words[3]):
        return ("in", words[1], int(words[2]), int(words[3]))
    if len(words) == 3 and words[1] == "=" and is_number(words[2]):
        return ("num", words[0], int(words[2]))
    if len(words) == 5 and words[1] == "=":
        return deed_from(words)
    return None


def deed_from(words):
    if words[3] in DEEDS:
        return (DEEDS[words[3]], words[0], words[2], words[4])
    if words[3] == "/" and is_number(words[4]):
        return ("div", words[0], words[2], int(words[4]))
    return None
