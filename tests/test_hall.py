"""Point 21: programs told and answered as texts."""

import itertools
import random
import unittest

from restfigures.errors import BadBase, BadInput, BadText, RowTooGreat
from restfigures.hall import answers, word_of
from restfigures.texts import base_text, program_text
from tests.helpers import GREAT_BASES, SMALL_BASES, RefusalCase
from tests.program_helpers import (all_inputs, drawn_program, first_too_great, greatest_program, inputs_in,
                                   looked_by_words, values_by_words)

BASE = "base 3 5 7 spare 11"

EVERY_KIND = """in x -4 6
five = 5
s = x + five
t = x - five
p = x * five
q = t / 2"""


def told_inputs(inputs):
    return " ".join("%d" % number for number in inputs)


class AnswersTest(RefusalCase):
    def assert_answers(self, base, program, inputs):
        given = (base_text(base), program_text(program), told_inputs(inputs))
        row = first_too_great(base, program, inputs)
        if row is not None:
            self.assert_refused_at(RowTooGreat, row, answers, *given)
        else:
            pairs = zip([each[1] for each in program], values_by_words(program, inputs))
            self.assert_told(answers(*given), "\n".join(f"{name} {value}" for name, value in pairs))

    def test_each_kind_of_row(self):
        self.assert_told(answers(BASE, EVERY_KIND, "4"), "x 4\nfive 5\ns 9\nt -1\np 20\nq -1")
        self.assert_told(answers(BASE, EVERY_KIND, "-4"), "x -4\nfive 5\ns 1\nt -9\np -20\nq -5")
        self.assert_told(answers("base 3 5 7", EVERY_KIND, "0"), "x 0\nfive 5\ns 5\nt -5\np 0\nq -3")

    def test_the_empty_program(self):
        self.assert_told(answers(BASE, "", ""), "")
        self.assert_told(answers("base 2", "", ""), "")
        self.assert_refused(BadInput, answers, BASE, "", "0")

    def test_without_inputs(self):
        self.assert_told(answers(BASE, "a = 7", ""), "a 7")
        self.assert_told(answers(BASE, "a = 7\nb = a * a", ""), "a 7\nb 49")

    def test_several_inputs(self):
        program = "in a 0 9\nin b -9 0\nt = a - b\nin c 3 3"
        self.assert_told(answers(BASE, program, "9 -9 3"), "a 9\nb -9\nt 18\nc 3")
        self.assert_told(answers(BASE, program, "0 0 3"), "a 0\nb 0\nt 0\nc 3")

    def test_drawn_programs(self):
        source = random.Random(25)
        for time in range(150):
            program = drawn_program(source, source.randint(0, 9))
            base = source.choice(SMALL_BASES)
            with self.subTest(base=base, program=program):
                for inputs in itertools.islice(all_inputs(program), 20):
                    self.assert_answers(base, program, inputs)

    def test_drawn_programs_of_great_numbers(self):
        source = random.Random(26)
        for time in range(150):
            program = drawn_program(source, source.randint(5, 60), widest=10 ** 5, most_inputs=6, greatest=10 ** 3)
            base = source.choice(GREAT_BASES)
            inputs = [source.randint(row[2], row[3]) for row in inputs_in(program)]
            with self.subTest(base=base, program=program, inputs=inputs):
                self.assert_answers(base, program, inputs)

    def test_sixty_rows_six_inputs_six_products(self):
        for inputs in ([0] * 6, [1, 2, 3, 4, 5, 6], [-9 - place for place in range(6)], [9, -9, 9, -9, 9, -9]):
            self.assertIsNone(first_too_great(GREAT_BASES[0], greatest_program(), inputs))
            self.assert_answers(GREAT_BASES[0], greatest_program(), inputs)

    def test_arguments_by_name(self):
        self.assert_told(answers(inputs_told="3", program_told="in x 0 3", base_told="base 7"), "x 3")
        self.assert_told(word_of(program_told="in x 0 3", base_told="base 7"), "fits")


# What is refused, and how, from the first that point 21 names to the last.
BASES_REFUSED = (("base", BadText, 1), ("", BadText, 1), ("base 3  5", BadText, 1), ("base 3 spare", BadText, 1),
                 ("base 4 6", BadBase, None), ("base 1", BadBase, None), ("base 3 spare 2", BadBase, None))
PROGRAMS_REFUSED = (("x", BadText, 1), ("a = 1\nin x 0 99\nin in 0 1", BadText, 3), ("a = 1\n", BadText, 2),
                    ("a = 99\nx = a / 0", BadText, 2), ("\n", BadText, 1))
INPUTS_REFUSED = ("x", " ", "5 ", " 5", "5  5", "05", "+5", "-0", "-", "5\n", "5\n5", "5,5", "5.0", "1" * 61, "\n",
                  "9" * 5000, "5 x", "x 5", "\u0663", "5 \uff13")
# Programs that are read, and inputs that are: by run all the same refused.
RUNS_REFUSED = (("in x 0 99\ny = 53", "", BadInput, None), ("in x 0 99\ny = 53", "5 5", BadInput, None),
                ("in x 0 99\ny = 53", "100", BadInput, None), ("in x 0 99\ny = 53", "-1", BadInput, None),
                ("in x 0 99\ny = 53", "99", RowTooGreat, 1), ("in x 0 99\ny = 53", "5", RowTooGreat, 2),
                ("in x 0 99\ny = x * x", "8", RowTooGreat, 2), ("a = 1\nb = -53", "", RowTooGreat, 2))


class OrderOfRefusalsTest(RefusalCase):
    def assert_told_refusal(self, error, row, call, *given):
        with self.subTest(given=[text[:100] for text in given]):
            if row is None:
                self.assert_refused(error, call, *given)
            else:
                self.assert_refused_at(error, row, call, *given)

    def test_the_base_ahead_of_all(self):
        programs = [text for text, error, row in PROGRAMS_REFUSED] + ["", "a = 1", "in x 0 99\ny = 53"]
        for base, error, row in BASES_REFUSED:
            for program, inputs in itertools.product(programs, ("", "99", "5 5") + INPUTS_REFUSED):
                self.assert_told_refusal(error, row, answers, base, program, inputs)

    def test_the_program_ahead_of_the_inputs(self):
        for program, error, row in PROGRAMS_REFUSED:
            for inputs in ("", "5", "100", "5 5") + INPUTS_REFUSED:
                self.assert_told_refusal(error, row, answers, BASE, program, inputs)

    def test_the_inputs_ahead_of_run(self):
        for inputs in INPUTS_REFUSED:
            for program in ("", "a = 1", "a = 53", "in x 0 99\ny = 53", "a = 1\nb = 53", "in x 5 5",
                            "in x 0 9\nin y 0 9"):
                self.assert_told_refusal(BadText, 1, answers, BASE, program, inputs)

    def test_run_last(self):
        for program, inputs, error, row in RUNS_REFUSED:
            self.assert_told_refusal(error, row, answers, BASE, program, inputs)

    def test_inputs_of_sixty_figures(self):
        for inputs in ("9" * 60, "-" + "9" * 60):
            self.assert_refused(BadInput, answers, BASE, "in x 0 9", inputs)
            self.assert_refused_at(RowTooGreat, 1, answers, BASE, f"in x {inputs} {inputs}", inputs)
            self.assert_refused_at(BadText, 1, answers, BASE, "in x 0 9", inputs + "9")

    def test_of_word_of_the_base_first(self):
        for base, error, row in BASES_REFUSED:
            for program in [text for text, bad, at in PROGRAMS_REFUSED] + ["", "a = 1", "a = 53"]:
                self.assert_told_refusal(error, row, word_of, base, program)

    def test_of_word_of_then_the_program(self):
        for program, error, row in PROGRAMS_REFUSED:
            self.assert_told_refusal(error, row, word_of, BASE, program)


class WordOfTest(RefusalCase):
    def test_fits(self):
        self.assert_told(word_of(BASE, EVERY_KIND), "fits")
        self.assert_told(word_of(BASE, ""), "fits")
        self.assert_told(word_of(BASE, "a = 52\nb = -52"), "fits")

    def test_not(self):
        self.assert_told(word_of(BASE, "in x -8 7\nm = x * x"), "not -8")
        self.assert_told(word_of(BASE, "in x -7 8\nm = x * x"), "not 8")
        self.assert_told(word_of(BASE, "in a 0 40\nin b -1 40\ns = a + b"), "not 40 40")
        program = "in a 0 40\nin b 20 40\nin c -3 -3\nn = 20\ns = a + n\nt = s + b"
        self.assert_told(word_of(BASE, program), "not 0 40 -3")
        self.assert_told(word_of(BASE, "in x 0 " + "9" * 60), "not " + "9" * 60)
        self.assert_told(word_of(BASE, "in x -" + "9" * 60 + " 0"), "not -" + "9" * 60)

    def test_not_without_inputs(self):
        self.assert_told(word_of(BASE, "a = 53"), "not")

    def test_open(self):
        self.assert_told(word_of("base 9 2", "in x -3 3\nm = x * x"), "open")
        self.assert_told(word_of(BASE, "in x 0 20\nn = 20\nt = n - x\nm = t * x"), "open")

    def test_drawn_programs(self):
        source = random.Random(27)
        for time in range(600):
            program = drawn_program(source, source.randint(0, 9))
            base = source.choice(SMALL_BASES)
            with self.subTest(base=base, program=program):
                word, inputs, row = looked_by_words(base, program)
                want = word + "".join(" %d" % number for number in inputs)
                self.assert_told(word_of(base_text(base), program_text(program)), want)

    def test_sixty_rows_six_inputs_six_products(self):
        for base in GREAT_BASES:
            word, inputs, row = looked_by_words(base, greatest_program())
            want = word + "".join(" %d" % number for number in inputs)
            self.assert_told(word_of(base_text(base), program_text(greatest_program())), want)


if __name__ == "__main__":
    unittest.main()
