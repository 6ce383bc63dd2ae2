"""The hall: a base, a program and its inputs told as texts, and answered as texts."""

from restfigures.programs import looked, run
from restfigures.texts import base_from, number_text, numbers_from, program_from, written


def answers(base_told, program_told, inputs_told):
    base = base_from(base_told)
    program = program_from(program_told)
    inputs = inputs_from(inputs_told)
    return "\n".join([name + " " + written(base, figure) for name, figure in run(base, program, inputs)])


def inputs_from(text):
    # The empty text has no number, where a split would make an empty word of it.
    return [] if text == "" else numbers_from(text.split(" "))


def word_of(base_told, program_told):
    base = base_from(base_told)
    told = looked(base, program_from(program_told))
    return " ".join([told[0]] + [number_text(number) for number in told[1]])
