"""Points 14 to 16: runs of programs, and the bounds of their values."""

import itertools
import random
import unittest

from restfigures.errors import BadInput, RowTooGreat
from restfigures.programs import bounds, run
from tests.helpers import GREAT_BASES, SMALL_BASES, RefusalCase, ends, fits_by_words, rests
from tests.program_helpers import (SIXTY_NINES, all_inputs, bounds_by_words, drawn_program, first_too_great,
                                   greatest_program, inputs_in, name_at, values_by_words)

BASE = ((3, 5, 7), (11,))

EVERY_KIND = [
    ("in", "x", -4, 6),
    ("num", "five", 5),
    ("add", "s", "x", "five"),
    ("take", "t", "x", "five"),
    ("mul", "p", "x", "five"),
    ("div", "q", "t", 2),
]


class RunTest(RefusalCase):
    def assert_run(self, base, program, inputs):
        row = first_too_great(base, program, inputs)
        if row is not None:
            self.assert_refused_at(RowTooGreat, row, run, base, program, list(inputs))
        else:
            names = [each[1] for each in program]
            want = [(name, rests(base, value)) for name, value in zip(names, values_by_words(program, inputs))]
            self.assert_told(run(base, program, list(inputs)), want)

    def test_each_kind_of_row(self):
        told = run(BASE, EVERY_KIND, [4])
        self.assert_told(told, [("x", rests(BASE, 4)), ("five", rests(BASE, 5)), ("s", rests(BASE, 9)),
                                ("t", rests(BASE, -1)), ("p", rests(BASE, 20)), ("q", rests(BASE, -1))])
        told = run(BASE, EVERY_KIND, [-4])
        self.assert_told(told, [("x", rests(BASE, -4)), ("five", rests(BASE, 5)), ("s", rests(BASE, 1)),
                                ("t", rests(BASE, -9)), ("p", rests(BASE, -20)), ("q", rests(BASE, -5))])

    def test_the_empty_program(self):
        for base in SMALL_BASES + GREAT_BASES:
            self.assert_told(run(base, [], []), [])
            self.assert_refused(BadInput, run, base, [], [0])

    def test_quotients_below_nought(self):
        for number, by, want in ((-7, 2, -4), (-8, 2, -4), (-1, 9, -1), (-1, SIXTY_NINES, -1), (7, 2, 3), (0, 5, 0),
                                 (-7, 1, -7), (-9, 9, -1), (-10, 9, -2)):
            with self.subTest(number=number, by=by):
                self.assert_told(run(BASE, [("num", "n", number), ("div", "q", "n", by)], []),
                                 [("n", rests(BASE, number)), ("q", rests(BASE, want))])

    def test_a_name_on_both_sides(self):
        program = [("in", "x", -7, 7), ("add", "a", "x", "x"), ("take", "t", "x", "x"), ("mul", "m", "x", "x")]
        for number in range(-7, 8):
            self.assert_told(run(BASE, program, [number]),
                             [("x", rests(BASE, number)), ("a", rests(BASE, 2 * number)), ("t", rests(BASE, 0)),
                              ("m", rests(BASE, number * number))])

    def test_inputs_come_in_the_order_of_their_rows(self):
        program = [("num", "n", 2), ("in", "z", 0, 9), ("mul", "m", "z", "n"), ("in", "a", 0, 9),
                   ("take", "t", "z", "a"), ("in", "k", 0, 9)]
        self.assert_told(run(BASE, program, [1, 5, 9]),
                         [("n", rests(BASE, 2)), ("z", rests(BASE, 1)), ("m", rests(BASE, 2)), ("a", rests(BASE, 5)),
                          ("t", rests(BASE, -4)), ("k", rests(BASE, 9))])

    def test_names_of_one_and_of_eight_letters(self):
        program = [("num", "z", 1), ("num", "abcdefgh", 2), ("num", "zzzzzzzz", 3), ("num", "run", 4),
                   ("num", "mul", 5), ("mul", "num", "mul", "run")]
        want = [("z", 1), ("abcdefgh", 2), ("zzzzzzzz", 3), ("run", 4), ("mul", 5), ("num", 20)]
        self.assert_told(run(BASE, program, []), [(name, rests(BASE, number)) for name, number in want])

    def test_sixty_rows_six_inputs_six_products(self):
        program = greatest_program()
        kinds = [row[0] for row in program]
        self.assertEqual((len(program), kinds.count("in"), kinds.count("mul")), (60, 6, 6))
        for base in GREAT_BASES[:3] + (BASE,):
            for inputs in ([0] * 6, [1, 2, 3, 4, 5, 6], [-9, 9, -9, 9, -9, 9], [-9 - place for place in range(6)],
                           [9 + place for place in range(6)]):
                with self.subTest(base=base, inputs=inputs):
                    self.assert_run(base, program, inputs)
        self.assertIsNone(first_too_great(GREAT_BASES[0], program, [9 + place for place in range(6)]))

    def test_more_than_the_document_bounds(self):
        """Nothing is refused for rows, inputs or products beyond the bounds."""
        program = greatest_program() + [("in", "x", 0, 1), ("mul", "y", "x", "x"), ("num", "longername", 3)]
        self.assert_run(GREAT_BASES[0], program, [1, 2, 3, 4, 5, 6, 1])

    def test_drawn_programs_with_all_their_inputs(self):
        source = random.Random(15)
        for time in range(150):
            program = drawn_program(source, source.randint(0, 9))
            base = source.choice(SMALL_BASES + (BASE, ((10, 7, 9), (11,))))
            with self.subTest(base=base, program=program):
                for inputs in all_inputs(program):
                    self.assert_run(base, program, inputs)

    def test_drawn_programs_of_great_numbers(self):
        source = random.Random(16)
        for time in range(300):
            program = drawn_program(source, source.randint(5, 40), widest=10 ** 9, most_inputs=6, greatest=10 ** 9)
            base = source.choice(GREAT_BASES)
            inputs = [source.randint(row[2], row[3]) for row in inputs_in(program)]
            with self.subTest(base=base, program=program, inputs=inputs):
                self.assert_run(base, program, inputs)

    def test_arguments_by_name(self):
        program = [("in", "x", 0, 3)]
        self.assert_told(run(inputs=[3], program=program, base=BASE), [("x", rests(BASE, 3))])
        self.assert_told(bounds(program=program), [("x", 0, 3)])


class BadInputTest(RefusalCase):
    def test_too_few_and_too_many(self):
        for count in range(7):
            program = [("in", name_at(place), -1, 1) for place in range(count)] + [("num", "n", 1)]
            for given in range(9):
                with self.subTest(count=count, given=given):
                    if given == count:
                        self.assertEqual(len(run(BASE, program, [0] * given)), count + 1)
                    else:
                        self.assert_refused(BadInput, run, BASE, program, [0] * given)

    def test_at_both_ends_and_one_beyond(self):
        for low, high in ((-3, 5), (0, 0), (2, 2), (-5, -5), (-9, -2), (1, 9), (-52, 52)):
            for place in range(3):
                program = [("in", "a", 0, 1), ("in", "b", 0, 1), ("in", "c", 0, 1)]
                program[place] = ("in", "x", low, high)
                for number in (low, high):
                    inputs = [0, 1, 0]
                    inputs[place] = number
                    with self.subTest(low=low, high=high, number=number, place=place):
                        self.assert_told(run(BASE, program, inputs)[place], ("x", rests(BASE, number)))
                for number in (low - 1, high + 1, -SIXTY_NINES, SIXTY_NINES):
                    inputs = [0, 1, 0]
                    inputs[place] = number
                    with self.subTest(low=low, high=high, number=number, place=place):
                        self.assert_refused(BadInput, run, BASE, program, inputs)

    def test_ahead_of_row_too_great(self):
        program = [("num", "n", 53), ("in", "x", 0, 99), ("mul", "m", "x", "x")]
        self.assert_refused_at(RowTooGreat, 1, run, BASE, program, [99])
        for inputs in ([], [100], [-1], [0, 0], [99, 99]):
            with self.subTest(inputs=inputs):
                self.assert_refused(BadInput, run, BASE, program, inputs)
        self.assert_refused(BadInput, run, BASE, [("in", "x", 0, 99), ("in", "y", 0, 1)], [99, 2])


class RowTooGreatTest(RefusalCase):
    def test_each_kind_of_row_may_be_the_first(self):
        for row, want in (
            (("num", "x", 53), 3),
            (("num", "x", -53), 3),
            (("in", "x", 53, 53), 3),
            (("in", "x", 0, 53), 3),
            (("add", "x", "a", "b"), 3),
            (("take", "x", "b", "a"), 3),
            (("mul", "x", "a", "a"), 3),
            (("mul", "x", "b", "a"), 3),
        ):
            program = [("num", "a", 30), ("num", "b", 40 if row[0] != "take" else -40), row, ("num", "z", 99)]
            inputs = [53] if row[0] == "in" else []
            with self.subTest(row=row):
                self.assert_refused_at(RowTooGreat, want, run, BASE, program, inputs)

    def test_at_each_row(self):
        for place in range(60):
            program = [("num", name_at(row), 52 - row) for row in range(60)]
            program[place] = ("num", name_at(place), 53)
            with self.subTest(place=place):
                self.assert_refused_at(RowTooGreat, place + 1, run, BASE, program, [])
                for later in (place + 1, 59):
                    program[min(later, 59)] = ("num", name_at(min(later, 59)), -SIXTY_NINES)
                self.assert_refused_at(RowTooGreat, place + 1, run, BASE, program, [])

    def test_ends_and_one_beyond(self):
        for base in SMALL_BASES + GREAT_BASES:
            low, high = ends(base)
            with self.subTest(base=base):
                for number in (low, high):
                    self.assert_told(run(base, [("num", "n", number)], []), [("n", rests(base, number))])
                    self.assert_told(run(base, [("in", "n", low, high)], [number]), [("n", rests(base, number))])
                for number in (low - 1, high + 1):
                    self.assert_refused_at(RowTooGreat, 1, run, base, [("num", "n", number)], [])
                    self.assert_refused_at(RowTooGreat, 2, run, base,
                                           [("num", "z", 0), ("in", "n", number, number)], [number])

    def test_a_later_row_that_would_fit_again(self):
        """What comes on the way is a row's value too, so it must fit."""
        program = [("in", "x", 0, 99), ("num", "n", 50), ("add", "s", "x", "n"), ("take", "t", "s", "n")]
        self.assert_refused_at(RowTooGreat, 3, run, BASE, program, [3])
        self.assert_told(run(BASE, program, [2])[3], ("t", rests(BASE, 2)))

    def test_a_value_that_no_row_reads(self):
        program = [("num", "a", 1), ("num", "b", 999), ("add", "c", "a", "a")]
        self.assert_refused_at(RowTooGreat, 2, run, BASE, program, [])

    def test_values_by_far_too_great(self):
        program = [("num", "a", SIXTY_NINES)] + [("mul", name_at(place), "a", "a") for place in range(6)]
        self.assert_refused_at(RowTooGreat, 1, run, GREAT_BASES[0], program, [])

    def test_many_more_products_than_may_be(self):
        """The first row that does not fit ends the run, so what stands behind it is never worked out."""
        program = [("num", name_at(0), 7)]
        for place in range(1, 60):
            program.append(("mul", name_at(place), name_at(place - 1), name_at(place - 1)))
        self.assert_refused_at(RowTooGreat, 4, run, ((10 ** 6, 3), ()), program, [])


class BoundsTest(RefusalCase):
    def assert_bounds(self, program, want):
        self.assert_told(bounds(program), want)

    def test_each_kind_of_row(self):
        self.assert_bounds(EVERY_KIND, [("x", -4, 6), ("five", 5, 5), ("s", 1, 11), ("t", -9, 1), ("p", -20, 30),
                                        ("q", -5, 0)])

    def test_the_empty_program(self):
        self.assert_bounds([], [])

    def test_all_four_pairs_of_ends_of_a_product(self):
        for one, other, want in (
            ((2, 3), (5, 7), (10, 21)),
            ((-3, -2), (5, 7), (-21, -10)),
            ((2, 3), (-7, -5), (-21, -10)),
            ((-3, -2), (-7, -5), (10, 21)),
            ((-3, 2), (5, 7), (-21, 14)),
            ((2, 3), (-7, 5), (-21, 15)),
            ((-3, 2), (-7, -5), (-14, 21)),
            ((-3, -2), (-7, 5), (-15, 21)),
            ((-3, 2), (-7, 5), (-15, 21)),
            ((-2, 3), (-7, 5), (-21, 15)),
            ((-2, 3), (-5, 7), (-15, 21)),
            ((-3, 2), (-5, 7), (-21, 15)),
            ((0, 3), (-7, 0), (-21, 0)),
            ((0, 0), (-7, 5), (0, 0)),
        ):
            program = [("in", "a") + one, ("in", "b") + other, ("mul", "p", "a", "b")]
            with self.subTest(one=one, other=other):
                self.assert_bounds(program, [("a",) + one, ("b",) + other, ("p",) + want])

    def test_sums_and_differences(self):
        for one, other in itertools.product(((2, 9), (-9, -2), (-4, 7), (0, 0), (5, 5)), repeat=2):
            program = [("in", "a") + one, ("in", "b") + other, ("add", "s", "a", "b"), ("take", "t", "a", "b")]
            with self.subTest(one=one, other=other):
                self.assert_bounds(program, [("a",) + one, ("b",) + other,
                                             ("s", one[0] + other[0], one[1] + other[1]),
                                             ("t", one[0] - other[1], one[1] - other[0])])

    def test_quotients_of_ends_below_nought(self):
        for low, high, by, want in ((-7, -1, 2, (-4, -1)), (-8, -7, 2, (-4, -4)), (-7, 7, 2, (-4, 3)),
                                    (-1, 0, 9, (-1, 0)), (-9, 9, 9, (-1, 1)), (-10, 8, 9, (-2, 0)),
                                    (-5, 5, 1, (-5, 5)), (-1, 1, SIXTY_NINES, (-1, 0))):
            with self.subTest(low=low, high=high, by=by):
                self.assert_bounds([("in", "a", low, high), ("div", "q", "a", by)], [("a", low, high), ("q",) + want])

    def test_a_name_on_both_sides_has_two_ends_on_each(self):
        program = [("in", "x", -3, 2), ("mul", "m", "x", "x"), ("take", "t", "x", "x"), ("add", "a", "x", "x")]
        self.assert_bounds(program, [("x", -3, 2), ("m", -6, 9), ("t", -5, 5), ("a", -6, 4)])

    def test_every_value_of_drawn_programs_lies_within(self):
        source = random.Random(17)
        for time in range(250):
            program = drawn_program(source, source.randint(0, 10))
            with self.subTest(program=program):
                told = bounds(program)
                self.assert_told(told, bounds_by_words(program))
                for inputs in all_inputs(program):
                    for value, (name, low, high) in zip(values_by_words(program, inputs), told, strict=True):
                        self.assertTrue(low <= value <= high, (name, inputs, value))

    def test_both_ends_are_values_where_each_name_is_read_once(self):
        source = random.Random(18)
        for time in range(150):
            program = drawn_program(source, source.randint(1, 10), once=True)
            every = [values_by_words(program, inputs) for inputs in all_inputs(program)]
            with self.subTest(program=program):
                want = [(row[1], min(values), max(values)) for row, values in zip(program, zip(*every))]
                self.assert_told(bounds(program), want)

    def test_sixty_rows_and_numbers_of_sixty_figures(self):
        program = greatest_program()
        self.assert_bounds(program, bounds_by_words(program))
        program = [("in", "a", -SIXTY_NINES, SIXTY_NINES)]
        for place in range(6):
            program.append(("mul", name_at(place), program[-1][1], program[-1][1]))
        told = bounds(program)
        self.assert_told(told, bounds_by_words(program))
        self.assertEqual(told[-1], (name_at(5), -SIXTY_NINES ** 64, SIXTY_NINES ** 64))

    def test_what_was_told_may_be_handed_in_again(self):
        told = bounds([("in", "a", -SIXTY_NINES, SIXTY_NINES), ("mul", "b", "a", "a"), ("mul", "c", "b", "b")])
        name, low, high = told[2]
        program = [("in", name, low, high), ("mul", "m", name, name), ("div", "d", name, high)]
        self.assert_bounds(program, [(name, low, high), ("m", low * high, high * high), ("d", -1, 1)])
        self.assert_refused_at(RowTooGreat, 1, run, GREAT_BASES[0], program, [high])
        self.assert_refused(BadInput, run, GREAT_BASES[0], program, [high + 1])
        self.assert_told(run(BASE, program, [0])[0], (name, rests(BASE, 0)))


class OwnAnswersTest(RefusalCase):
    def test_what_is_handed_in_stays(self):
        program = list(EVERY_KIND)
        inputs = [3]
        run(BASE, program, inputs)
        bounds(program)
        self.assertEqual(program, EVERY_KIND)
        self.assertEqual(inputs, [3])

    def test_no_two_figures_told_are_one_and_the_same(self):
        program = [("num", "a", 1), ("num", "b", 1), ("mul", "c", "a", "b"), ("in", "d", 1, 1), ("div", "e", "a", 1)]
        told = run(BASE, program, [1])
        again = run(BASE, program, [1])
        every = [told, again] + [figure for name, figure in told + again]
        self.assertEqual(len({id(part) for part in every}), len(every))
        for name, figure in told:
            self.assertEqual(figure, rests(BASE, 1))

    def test_what_was_told_and_changed_is_told_anew_as_it_was(self):
        program = list(EVERY_KIND)
        told = run(BASE, program, [3])
        told[0][1][0] = 99
        told[1][1].append(7)
        told.pop()
        self.assertEqual(len(run(BASE, program, [3])), 6)
        self.assert_told(run(BASE, program, [3])[:2], [("x", rests(BASE, 3)), ("five", rests(BASE, 5))])
        pairs = bounds(program)
        pairs.append(None)
        pairs[0] = None
        self.assert_told(bounds(program)[0], ("x", -4, 6))
        self.assertEqual(len(bounds(program)), 6)

    def test_what_was_handed_in_and_changed_leaves_what_was_told(self):
        program = [("in", "x", -4, 6), ("num", "n", 5)]
        inputs = [3]
        told = run(BASE, program, inputs)
        pairs = bounds(program)
        program.append(("num", "z", 1))
        program[0] = ("num", "x", 9)
        inputs[0] = 4
        self.assert_told(told, [("x", rests(BASE, 3)), ("n", rests(BASE, 5))])
        self.assert_told(pairs, [("x", -4, 6), ("n", 5, 5)])

    def test_one_row_tuple_shared_by_two_programs(self):
        row = ("in", "x", 0, 60)
        self.assert_told(run(BASE, [row], [52]), [("x", rests(BASE, 52))])
        self.assertFalse(fits_by_words(BASE, 53))
        self.assert_refused_at(RowTooGreat, 2, run, BASE, [("num", "a", 0), row], [53])


if __name__ == "__main__":
    unittest.main()
