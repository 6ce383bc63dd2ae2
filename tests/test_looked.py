"""Point 17: whether all answers of a program fit a base."""

import collections
import random
import unittest

from restfigures.errors import RowTooGreat
from restfigures.programs import bounds, looked, run
from tests.helpers import GREAT_BASES, SMALL_BASES, RefusalCase, ends
from tests.program_helpers import (SIXTY_NINES, all_inputs, bounds_by_words, drawn_program, first_too_great,
                                   greatest_program, inputs_in, looked_by_words, name_at)

BASE = ((3, 5, 7), (11,))
BASES = SMALL_BASES + (BASE, ((10, 9), ()), ((8, 7, 5), (9,)), ((16, 25, 27), (29, 31)))


def just_too_small(program):
    """A base in which the bounds' end that lies farthest from nought does not fit, by a little."""
    farthest = max([abs(end) for name, low, high in bounds_by_words(program) for end in (low, high)], default=1)
    return ((min(max(2, farthest * 2 - 1), 10 ** 6),), ())


class WordsTest(RefusalCase):
    def test_fits(self):
        self.assert_told(looked(BASE, [("in", "x", -7, 7), ("mul", "m", "x", "x")]), ("fits", [], 0))
        self.assert_told(looked(BASE, [("in", "x", -52, 52)]), ("fits", [], 0))
        self.assert_told(looked(BASE, [("num", "n", 52), ("num", "m", -52)]), ("fits", [], 0))

    def test_the_empty_program_fits(self):
        for base in SMALL_BASES + GREAT_BASES:
            self.assert_told(looked(base, []), ("fits", [], 0))

    def test_not(self):
        self.assert_told(looked(BASE, [("in", "x", -8, 7), ("mul", "m", "x", "x")]), ("not", [-8], 2))
        self.assert_told(looked(BASE, [("in", "x", -7, 8), ("mul", "m", "x", "x")]), ("not", [8], 2))
        self.assert_told(looked(BASE, [("in", "x", -52, 53)]), ("not", [53], 1))
        self.assert_told(looked(BASE, [("in", "x", -53, 52)]), ("not", [-53], 1))

    def test_not_without_inputs(self):
        self.assert_told(looked(BASE, [("num", "n", 53)]), ("not", [], 1))
        self.assert_told(looked(BASE, [("num", "n", 50), ("add", "s", "n", "n"), ("num", "z", 99)]), ("not", [], 2))
        self.assert_told(looked(BASE, [("num", "n", -SIXTY_NINES)]), ("not", [], 1))

    def test_open_where_all_inputs_fit(self):
        """x - x is 0 always, and its bounds do not tell that."""
        program = [("in", "x", 0, 52), ("in", "y", 1, 2), ("take", "t", "x", "x"), ("mul", "m", "t", "y")]
        self.assert_told(looked(BASE, program), ("open", [], 0))
        self.assert_told(looked(((53, 2), ()), [("in", "x", 0, 53), ("take", "t", "x", "x")]), ("open", [], 0))

    def test_open_where_some_inputs_between_the_ends_do_not_fit(self):
        program = [("in", "x", 0, 20), ("num", "n", 20), ("take", "t", "n", "x"), ("mul", "m", "t", "x")]
        self.assert_told(looked(BASE, program), ("open", [], 0))
        self.assert_refused_at(RowTooGreat, 4, run, BASE, program, [10])

    def test_open_of_a_square_whose_bounds_reach_below(self):
        # The bounds of the square are -9 to 9; from -8 to 9 fits, and the square is never below 0.
        program = [("in", "x", -3, 3), ("mul", "m", "x", "x")]
        self.assert_told(looked(((9, 2), ()), program), ("open", [], 0))
        self.assert_told(looked(((19,), ()), program), ("fits", [], 0))
        self.assert_told(looked(((17,), ()), program), ("not", [-3], 2))

    def test_fits_and_not_at_the_very_ends(self):
        for base in SMALL_BASES + GREAT_BASES:
            low, high = ends(base)
            with self.subTest(base=base):
                self.assert_told(looked(base, [("in", "x", low, high)]), ("fits", [], 0))
                self.assert_told(looked(base, [("in", "x", low - 1, high)]), ("not", [low - 1], 1))
                self.assert_told(looked(base, [("in", "x", low, high + 1)]), ("not", [high + 1], 1))
                self.assert_told(looked(base, [("in", "x", low - 1, high + 1)]), ("not", [low - 1], 1))

    def test_arguments_by_name(self):
        self.assert_told(looked(program=[("num", "n", 53)], base=BASE), ("not", [], 1))


class OrderTest(RefusalCase):
    def test_the_last_input_changes_first(self):
        # Either high makes the sum too great: the last one's high stands ahead of the first one's.
        program = [("in", "a", 0, 40), ("in", "b", 0, 40), ("num", "n", 20), ("add", "s", "a", "n"),
                   ("add", "t", "s", "b")]
        self.assert_told(looked(BASE, program), ("not", [0, 40], 5))

    def test_low_stands_ahead_of_high(self):
        program = [("in", "a", -60, 60), ("in", "b", -60, 60)]
        self.assert_told(looked(BASE, program), ("not", [-60, -60], 1))
        program = [("in", "a", -6, 6), ("in", "b", -6, 6), ("num", "n", 2), ("mul", "m", "a", "b"),
                   ("mul", "p", "m", "n")]
        self.assert_told(looked(BASE, program), ("not", [-6, -6], 5))

    def test_the_row_is_the_first_refused_for_those_inputs(self):
        # At the first ends row 4 is too great; row 3 is so only at later ones.
        program = [("in", "a", 0, 60), ("in", "b", -60, 0), ("add", "s", "a", "a"), ("add", "t", "b", "b")]
        self.assert_told(looked(BASE, program), ("not", [0, -60], 2))
        program = [("in", "a", 0, 30), ("in", "b", -30, 0), ("add", "s", "a", "a"), ("add", "t", "b", "b")]
        self.assert_told(looked(BASE, program), ("not", [0, -30], 4))
        program = [("in", "a", 0, 30), ("in", "b", -3, 0), ("add", "s", "a", "a"), ("add", "t", "b", "b")]
        self.assert_told(looked(BASE, program), ("not", [30, -3], 3))

    def test_each_choice_of_ends_of_three_inputs_may_be_the_one(self):
        """A sum that is too great at just one choice of ends."""
        for place in range(8):
            signs = [place // 4 % 2, place // 2 % 2, place % 2]
            program = [("in", name, 0, 1) for name in "abc"]
            program += [("num", "k", 50), ("num", "one", 1)]
            total = "k"
            for name, high in zip("abc", signs):
                if high:
                    program.append(("add", "s" + name, total, name))
                else:
                    program += [("take", "t" + name, "one", name), ("add", "s" + name, total, "t" + name)]
                total = "s" + name
            with self.subTest(signs=signs):
                told = looked(BASE, program)
                self.assert_told(told, ("not", signs, len(program)))

    def test_six_inputs(self):
        program = [("in", name_at(place), -place - 1, place + 1) for place in range(6)]
        total = name_at(0)
        for place in range(1, 6):
            program.append(("add", name_at(10 + place), total, name_at(place)))
            total = name_at(10 + place)
        # All six together are 21 at the most, so of the bases with 20 and 21 as the greatest one does not fit.
        self.assert_told(looked(((41,), ()), program), ("not", [-1, -2, -3, -4, -5, -6], 11))
        self.assert_told(looked(((43,), ()), program), ("fits", [], 0))
        self.assert_told(looked(((6, 7), ()), program), ("not", [-1, -2, -3, -4, -5, -6], 11))

    def test_an_input_with_one_end(self):
        program = [("in", "a", 5, 5), ("in", "b", 0, 11), ("mul", "m", "a", "b")]
        self.assert_told(looked(BASE, program), ("not", [5, 11], 3))


class WalkTest(RefusalCase):
    def test_drawn_programs(self):
        source = random.Random(19)
        words = collections.Counter()
        for time in range(1500):
            program = drawn_program(source, source.randint(0, 9))
            base = source.choice(BASES + (just_too_small(program),) * 9)
            with self.subTest(base=base, program=program):
                told = looked(base, program)
                self.assert_told(told, looked_by_words(base, program))
                words[told[0]] += 1
        # The draw tells each word often enough to hold it against the walk.
        self.assertTrue(all(words[word] >= 40 for word in ("fits", "not", "open")), words)

    def test_where_fits_is_told_all_inputs_fit(self):
        source = random.Random(20)
        fitted = 0
        for time in range(600):
            program = drawn_program(source, source.randint(1, 8))
            base = source.choice(BASES)
            if looked(base, program)[0] == "fits":
                fitted += 1
                with self.subTest(base=base, program=program):
                    for inputs in all_inputs(program):
                        self.assertIsNone(first_too_great(base, program, inputs))
                        self.assertEqual(len(run(base, program, list(inputs))), len(program))
        self.assertTrue(fitted >= 40, fitted)

    def test_where_each_name_stands_once_open_is_never_told(self):
        source = random.Random(21)
        words = collections.Counter()
        for time in range(1500):
            program = drawn_program(source, source.randint(0, 12), most_inputs=6, once=True)
            base = source.choice(BASES)
            with self.subTest(base=base, program=program):
                told = looked(base, program)
                self.assertNotEqual(told[0], "open")
                self.assert_told(told, looked_by_words(base, program))
                words[told[0]] += 1
        self.assertTrue(words["fits"] >= 40 and words["not"] >= 40, words)

    def test_great_programs(self):
        source = random.Random(22)
        for time in range(60):
            program = drawn_program(source, source.randint(10, 60), widest=10 ** 7, most_inputs=6, greatest=10 ** 7)
            base = source.choice(GREAT_BASES)
            with self.subTest(base=base, program=program):
                self.assert_told(looked(base, program), looked_by_words(base, program))

    def test_sixty_rows_six_inputs_six_products(self):
        program = greatest_program()
        for base in GREAT_BASES + (BASE, ((10 ** 6,), ()), ((10 ** 6, 999999), ())):
            with self.subTest(base=base):
                self.assert_told(looked(base, program), looked_by_words(base, program))

    def test_bounds_of_very_many_figures(self):
        program = [("in", "a", 0, SIXTY_NINES)]
        for place in range(6):
            program.append(("mul", name_at(place), program[-1][1], program[-1][1]))
        self.assert_told(looked(GREAT_BASES[0], program), ("not", [SIXTY_NINES], 1))


class OwnAnswersTest(RefusalCase):
    def test_the_inputs_told_are_refused_by_run_at_the_row_told(self):
        source = random.Random(23)
        for time in range(300):
            program = drawn_program(source, source.randint(1, 9))
            base = source.choice(BASES)
            word, inputs, row = looked(base, program)
            if word == "not":
                with self.subTest(base=base, program=program):
                    self.assert_refused_at(RowTooGreat, row, run, base, program, inputs)
                    self.assertTrue(all(number in each[2:] for number, each in zip(inputs, inputs_in(program))))

    def test_what_is_handed_in_stays(self):
        program = [("in", "x", -8, 7), ("mul", "m", "x", "x")]
        looked(BASE, program)
        self.assertEqual(program, [("in", "x", -8, 7), ("mul", "m", "x", "x")])

    def test_a_list_told_and_changed_is_told_anew_as_it_was(self):
        for program in ([("in", "x", 0, 7)], [("in", "x", -8, 7), ("mul", "m", "x", "x")], [("num", "n", 53)],
                        [("in", "x", 0, 52), ("take", "t", "x", "x"), ("add", "a", "t", "t")], []):
            with self.subTest(program=program):
                want = looked(BASE, program)
                told = looked(BASE, program)
                self.assertIsNot(told[1], looked(BASE, program)[1])
                told[1].append(99)
                told[1][0] = 98
                self.assert_told(looked(BASE, program), want)
                self.assertEqual(len(bounds(program)), len(program))


if __name__ == "__main__":
    unittest.main()
