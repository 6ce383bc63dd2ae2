"""Points 18 and 19: the texts of figures, of numbers and of bases."""

import itertools
import math
import random
import re
import unittest

from restfigures.bases import base_of
from restfigures.errors import BadBase, BadFigure, BadText, TooGreat, Wrong
from restfigures.texts import base_from, base_text, figure_from, figure_text, read, written
from tests.helpers import (GREAT_BASES, GREATEST_KEPT, GREATEST_SPARE, PAIR_BASES, SMALL_BASES, RefusalCase, drawn,
                           ends, fits_by_words, fitting, no_figures, rests, wrong_figures)

BASE = ((3, 5, 7), (11, 13))
NO_SPARE = ((3, 5, 7), ())
NUMBER = "(0|-?[1-9][0-9]{0,59})"

# Digits to Python's eye, and none from 0 to 9: Arabic, full width, raised, and one of a script beyond 16 bits.
OTHER_DIGITS = ("\u0663", "\uff13", "\u00b3", "\U0001d7db")

# No number is so written.
NO_NUMBERS = (
    "", "-", "--1", "-0", "+1", "+0", "00", "01", "-01", "000", "007", " 1", "1 ", " ", "1 2", "\n", "1\n", "\n1",
    "1.0", "1.", ".1", "1:", "a", "1a", "a1", "x", "0x1", "1e3", "1_000", "1,000", "1-", "1-1", "- 1", "-a", "one",
    "None",
    "0" * 61, "1" * 61, "-" + "1" * 61, "9" * 1000, "-" + "9" * 5000, "9" * 5000, "0" + "1" * 59, "0" * 5000, "~", "/",
    ";", "(1)", "1%",
) + OTHER_DIGITS + tuple("1" + digit for digit in OTHER_DIGITS) + tuple("-" + digit for digit in OTHER_DIGITS)


def text_by_words(base, figure):
    """A point between two rests, and the colon in the place of the point behind the last kept one's."""
    signs = ["."] * (len(figure) - 1) + [""]
    if base[1]:
        signs[len(base[0]) - 1] = ":"
    return "".join(f"{rest}{sign}" for rest, sign in zip(figure, signs))


def all_figures(base):
    return [list(figure) for figure in itertools.product(*[range(divisor) for divisor in base[0] + base[1]])]


class FigureTextTest(RefusalCase):
    def test_the_documents_own(self):
        base = ((3, 5, 7), (11, 13))
        self.assert_told(figure_text(base, [2, 3, 1, 4, 0]), "2.3.1:4.0")
        self.assert_told(figure_from(base, "2.3.1:4.0"), [2, 3, 1, 4, 0])

    def test_with_and_without_spare_divisors(self):
        for base, figure, text in (
            (((7,), ()), [3], "3"),
            (((7,), (11,)), [3, 10], "3:10"),
            (((7, 5), ()), [3, 0], "3.0"),
            (((7, 5), (8,)), [0, 0, 0], "0.0:0"),
            (((7,), (8, 9, 11, 13)), [6, 7, 8, 10, 12], "6:7.8.10.12"),
            (((2, 3, 5, 7, 11, 13), ()), [1, 2, 4, 6, 10, 12], "1.2.4.6.10.12"),
            (((999983,), (10 ** 6,)), [999982, 999999], "999982:999999"),
            (GREAT_BASES[0], [0] * 10, "0.0.0.0.0.0:0.0.0.0"),
        ):
            with self.subTest(base=base, figure=figure):
                self.assert_told(figure_text(base, figure), text)
                self.assert_told(figure_from(base, text), figure)

    def test_every_figure_right_or_not(self):
        for base in PAIR_BASES[:6]:
            with self.subTest(base=base):
                for figure in all_figures(base):
                    text = text_by_words(base, figure)
                    self.assert_told(figure_text(base, list(figure)), text)
                    self.assert_told(figure_from(base, text), figure)

    def test_figures_that_are_not_right(self):
        for base in SMALL_BASES + GREAT_BASES:
            if base[1]:
                for figure in wrong_figures(base):
                    with self.subTest(base=base, figure=figure):
                        self.assert_told(figure_text(base, figure), text_by_words(base, figure))
                        self.assert_told(figure_from(base, text_by_words(base, figure)), figure)

    def test_figures_of_great_bases(self):
        for base in GREAT_BASES:
            for number in drawn(base, 60):
                with self.subTest(base=base, number=number):
                    figure = rests(base, number)
                    self.assert_told(figure_text(base, figure), text_by_words(base, figure))
                    self.assert_told(figure_from(base, figure_text(base, figure)), figure)

    def test_no_figure_has_no_text(self):
        for base in SMALL_BASES + GREAT_BASES:
            for figure in no_figures(base):
                with self.subTest(base=base, figure=figure[:12]):
                    self.assert_refused(BadFigure, figure_text, base, figure)

    def test_own_lists(self):
        figure = [2, 3, 1, 4, 0]
        self.assertEqual(figure_text(BASE, figure), "2.3.1:4.0")
        self.assertEqual(figure, [2, 3, 1, 4, 0])
        told = figure_from(BASE, "2.3.1:4.0")
        told.append(5)
        told[0] = 1
        self.assert_told(figure_from(BASE, "2.3.1:4.0"), [2, 3, 1, 4, 0])

    def test_arguments_by_name(self):
        self.assert_told(figure_text(figure=[2, 3, 1], base=NO_SPARE), "2.3.1")
        self.assert_told(figure_from(text="2.3.1", base=NO_SPARE), [2, 3, 1])


class FigureFromTest(RefusalCase):
    def assert_no_text(self, base, text):
        with self.subTest(base=base, text=text[:100]):
            self.assert_refused_at(BadText, 1, figure_from, base, text)

    def test_points_and_colons(self):
        for text in ("2.3.1.4.0", "2.3:1.4.0", "2:3.1.4.0", "2.3.1.4:0", "2.3.1:4:0", "2:3:1:4:0", "2.3:1:4.0",
                     "2.3.1::4.0", "2.3.1.:4.0", "2.3.1:.4.0", "2..3.1:4.0", "2.3.1:4..0", ".2.3.1:4.0", ":2.3.1:4.0",
                     "2.3.1:4.0.", "2.3.1:4.0:", "2.3.1", "2.3.1:", "2.3.1:4", "2.3:4.0", ":4.0", "2.3.1:4.0.0",
                     "2.3.1.0:4.0", "2.3.1:4.0:0", "0:2.3.1:4.0", ".", ":", "....", "..:.", "2", "2.3.1;4.0",
                     "2,3,1:4,0", "2.3.1 4.0", "23.1:4.0", "2.31:4.0", "2.3.14.0", "2.3.1:40"):
            self.assert_no_text(BASE, text)

    def test_a_colon_where_there_is_no_spare_divisor(self):
        for text in ("2.3.1:", "2.3:1", "2:3.1", "2:3:1", ":2.3.1", "2.3.1.", "2.3", "2.3.1.0", "2.3.1:0", "231"):
            self.assert_no_text(NO_SPARE, text)
        for text in ("2:", ":2", "2.", ".2", "2.0", "2:0"):
            self.assert_no_text(((3,), ()), text)

    def test_the_empty_text(self):
        for base in SMALL_BASES + GREAT_BASES:
            self.assert_no_text(base, "")

    def test_a_rest_that_is_its_divisor_or_more(self):
        for base in (BASE, NO_SPARE, ((2,), ()), ((5, 2), (9, 7))) + GREAT_BASES:
            for place, divisor in enumerate(base[0] + base[1]):
                figure = rests(base, 1)
                figure[place] = divisor - 1
                self.assert_told(figure_from(base, text_by_words(base, figure)), figure)
                for rest in (divisor, divisor + 1, 10 * divisor, 10 ** 60 - 1, 10 ** 60, 10 ** 4200, -1, -divisor):
                    figure[place] = rest
                    self.assert_no_text(base, text_by_words(base, figure))

    def test_what_is_no_number_at_each_place(self):
        for base in (BASE, NO_SPARE, ((7,), ()), ((7,), (11,))):
            for place in range(len(base[0] + base[1])):
                for word in NO_NUMBERS:
                    words = ["0"] * len(base[0] + base[1])
                    words[place] = word
                    self.assert_no_text(base, text_by_words(base, words))

    def test_another_bases_text(self):
        self.assert_no_text(BASE, figure_text(NO_SPARE, [2, 3, 1]))
        self.assert_no_text(NO_SPARE, figure_text(BASE, [2, 3, 1, 4, 0]))
        self.assert_no_text(((3, 5), (7, 11, 13)), figure_text(BASE, [2, 3, 1, 4, 0]))

    def test_blanks_and_line_feeds(self):
        text = "2.3.1:4.0"
        for place in range(len(text) + 1):
            for sign in (" ", "\n", "-", "+", "a", "_", "0x", "~"):
                self.assert_no_text(BASE, text[:place] + sign + text[place:])

    def test_every_short_text(self):
        """Of small bases all texts of a few signs: just those that are some figure's are read."""
        for base, longest in ((((2,), (3,)), 5), (((3,), ()), 4), (((2, 3), ()), 5), (((2,), (3, 5)), 6)):
            texts = {text_by_words(base, figure): figure for figure in all_figures(base)}
            read_back = 0
            for length in range(longest + 1):
                for signs in itertools.product("0123.:-", repeat=length):
                    text = "".join(signs)
                    if text in texts:
                        read_back += 1
                        self.assert_told(figure_from(base, text), texts[text])
                    else:
                        with self.assertRaises(BadText) as caught:
                            figure_from(base, text)
                        self.assertEqual(caught.exception.row, 1)
            self.assertTrue(read_back > 1, base)


class WrittenTest(RefusalCase):
    def test_ordinary_figures(self):
        for number, text in ((0, "0"), (1, "1"), (-1, "-1"), (10, "10"), (-10, "-10"), (52, "52"), (-52, "-52")):
            with self.subTest(number=number):
                self.assert_told(written(BASE, rests(BASE, number)), text)
                self.assert_told(read(BASE, text), rests(BASE, number))

    def test_every_number_of_a_small_base(self):
        for base in SMALL_BASES:
            with self.subTest(base=base):
                for number in fitting(base)[::7 if len(fitting(base)) > 1000 else 1]:
                    self.assert_told(written(base, rests(base, number)), "%d" % number)
                    self.assert_told(read(base, "%d" % number), rests(base, number))

    def test_drawn_numbers_of_great_bases(self):
        for base in GREAT_BASES:
            for number in drawn(base, 100):
                with self.subTest(base=base, number=number):
                    self.assert_told(written(base, rests(base, number)), "%d" % number)
                    self.assert_told(read(base, "%d" % number), rests(base, number))

    def test_refusals(self):
        for base in (BASE, ((5, 2), (9, 7)), GREAT_BASES[0]):
            for figure in no_figures(base):
                self.assert_refused(BadFigure, written, base, figure)
            for figure in wrong_figures(base):
                self.assert_refused(Wrong, written, base, figure)

    def test_own_lists(self):
        figure = rests(BASE, 8)
        self.assertEqual(written(BASE, figure), "8")
        self.assertEqual(figure, rests(BASE, 8))
        told = read(BASE, "8")
        told.append(1)
        self.assert_told(read(BASE, "8"), rests(BASE, 8))

    def test_arguments_by_name(self):
        self.assert_told(written(figure=rests(BASE, -8), base=BASE), "-8")
        self.assert_told(read(text="-8", base=BASE), rests(BASE, -8))


class ReadTest(RefusalCase):
    def test_what_is_no_number(self):
        for base in (BASE, NO_SPARE, ((2,), ()), GREAT_BASES[0]):
            for text in NO_NUMBERS:
                with self.subTest(base=base, text=text[:100]):
                    self.assert_refused_at(BadText, 1, read, base, text)

    def test_numbers_that_do_not_fit(self):
        for base in SMALL_BASES + GREAT_BASES:
            low, high = ends(base)
            for number in (low - 1, high + 1):
                with self.subTest(base=base, number=number):
                    self.assert_refused(TooGreat, read, base, "%d" % number)
            for number in (low, high):
                with self.subTest(base=base, number=number):
                    self.assert_told(read(base, "%d" % number), rests(base, number))

    def test_sixty_figures_and_sixty_one(self):
        for base in (BASE, GREAT_BASES[0]):
            for figure in "19":
                for sign in ("", "-"):
                    with self.subTest(base=base, figure=figure, sign=sign):
                        # So written, and too great by far; the sign is no figure.
                        self.assert_refused(TooGreat, read, base, sign + figure * 60)
                        self.assert_refused_at(BadText, 1, read, base, sign + figure * 61)
                        self.assert_refused_at(BadText, 1, read, base, sign + figure * 62)

    def test_every_short_text(self):
        base = ((10, 7, 9), ())
        for length in range(5):
            for signs in itertools.product("019-+ .", repeat=length):
                text = "".join(signs)
                if not re.fullmatch(NUMBER, text):
                    with self.assertRaises(BadText) as caught:
                        read(base, text)
                    self.assertEqual(caught.exception.row, 1)
                elif fits_by_words(base, int(text)):
                    self.assert_told(read(base, text), rests(base, int(text)))
                else:
                    self.assert_refused(TooGreat, read, base, text)


def is_base_by_words(kept, spare):
    """Point 2's words."""
    every = kept + spare
    return (1 <= len(kept) <= 6 and len(spare) <= 4 and all(2 <= divisor <= 10 ** 6 for divisor in every)
            and all(math.gcd(one, other) == 1 for one, other in itertools.combinations(every, 2))
            and all(one > other for one in spare for other in kept))


class BaseTextTest(RefusalCase):
    def test_the_documents_own(self):
        self.assert_told(base_text(((3, 5, 7), (11,))), "base 3 5 7 spare 11")
        self.assert_told(base_from("base 3 5 7 spare 11"), ((3, 5, 7), (11,)))

    def test_with_and_without_spare_divisors(self):
        for base, text in (
            (((2,), ()), "base 2"),
            (((10 ** 6,), ()), "base 1000000"),
            (((7, 3), ()), "base 7 3"),
            (((2,), (3,)), "base 2 spare 3"),
            (((7, 3), (11, 8)), "base 7 3 spare 11 8"),
            (((3, 2), (7, 5, 13, 11)), "base 3 2 spare 7 5 13 11"),
        ):
            with self.subTest(base=base):
                self.assert_told(base_text(base), text)
                self.assert_told(base_from(text), base)

    def test_each_text_read_back(self):
        for base in SMALL_BASES + PAIR_BASES + GREAT_BASES:
            with self.subTest(base=base):
                self.assert_told(base_from(base_text(base)), base)
                self.assert_told(base_of(list(base[0]), list(base[1])), base)

    def test_arguments_by_name(self):
        self.assert_told(base_text(base=NO_SPARE), "base 3 5 7")
        self.assert_told(base_from(text="base 3 5 7"), NO_SPARE)


class BaseFromTest(RefusalCase):
    def test_what_is_no_bases_text(self):
        for text in (
            "", " ", "\n", "base", "base ", " base", "spare", "spare 11", "3 5 7", "3", "base spare", "base spare 11",
            "base 3 5 7 spare", "base 3 5 7 spare ", "base 3 5 7 spare spare", "base 3 spare 5 spare 7",
            "base 3 spare spare 5", "base 3 spare 5 spare", "base 3 spare 5 base 7", "base base 3", "base 3 base 5",
            "base  3", "base 3  5", "base 3 5 ", " base 3 5", "base 3 5  spare 7", "base 3 5 spare  7",
            "base 3 5 spare 7 ", "base 3 5 spare 7  11", "base3 5", "base 3spare 5", "base 3 spare5", "base 3 Spare 5",
            "Base 3 5", "BASE 3 5", "bases 3 5", "ba se 3", "base\n3 5", "base 3\n5", "base 3 5\n", "\nbase 3 5",
            "base 3 spare\n5", "base 3\nspare 5", "base 3, 5", "base 3.5", "base 3:5", "base (3)", "base x", "base 3 x",
            "base 3 spare x", "base 03", "base 3 05", "base 3 spare 05", "base +3", "base -0", "base 00", "base -",
            "base 3 " + "1" * 61, "base " + "9" * 5000, "base 3 spare " + "1" * 61, "base 3 -" + "1" * 61,
            "basespare 3", "base 3 sparespare 5", "spare 3 base 5", "base 3 5 7 spare 11\n",
        ):
            with self.subTest(text=text[:100]):
                self.assert_refused_at(BadText, 1, base_from, text)

    def test_what_is_no_number_at_each_place(self):
        # 1 2 is no number, but two in a base's text.
        for word in [word for word in NO_NUMBERS if word != "1 2"]:
            for text in ("base {}", "base {} 3", "base 3 {}", "base 3 {} spare 5", "base 3 spare {}",
                         "base 3 spare {} 5", "base 3 spare 5 {}"):
                with self.subTest(text=text, word=word[:100]):
                    self.assert_refused_at(BadText, 1, base_from, text.replace("{}", word))

    def test_numbers_that_make_no_base(self):
        for text in (
            "base 0", "base 1", "base -3", "base 1000001", "base 3 3", "base 4 6", "base 3 6", "base 2 3 5 7 11 13 17",
            "base 3 spare 2", "base 7 spare 5", "base 3 5 spare 4", "base 3 spare 3", "base 3 spare 6",
            "base 3 spare 5 5", "base 3 spare 4 6", "base 2 spare 3 5 7 11 13", "base 3 spare 0", "base 3 spare -5",
            "base 3 spare 1000001", "base " + "9" * 60, "base -" + "9" * 60, "base 3 spare " + "9" * 60,
            "base " + " ".join(["3"] * 1000), "base 3 spare " + " ".join(["5"] * 1000),
        ):
            with self.subTest(text=text[:100]):
                self.assert_refused(BadBase, base_from, text)

    def test_bad_text_ahead_of_bad_base(self):
        for text in ("base 0 x", "base x 0", "base 0 spare", "base 0  1", "base 4 6 ", "base 1 spare 1 spare 1",
                     "base 3 3 spare 05", "base 2 3 5 7 11 13 17 19 x", "base 3 spare 2 x", "base 0 00"):
            with self.subTest(text=text):
                self.assert_refused_at(BadText, 1, base_from, text)

    def test_every_short_text(self):
        """All texts of up to five words, held against the words of point 19 and then of point 2."""
        told = 0
        for length in range(1, 6):
            for words in itertools.product(("base", "spare", "3", "5", "7", "-2", "05", ""), repeat=length):
                text = " ".join(words)
                if not re.fullmatch(f"base( {NUMBER})+( spare( {NUMBER})+)?", text):
                    with self.assertRaises(BadText) as caught:
                        base_from(text)
                    self.assertEqual(caught.exception.row, 1)
                    continue
                parts = text.split(" spare ")
                lists = [[int(word) for word in part.split() if word != "base"] for part in parts + [""]]
                if is_base_by_words(lists[0], lists[1]):
                    told += 1
                    self.assert_told(base_from(text), (tuple(lists[0]), tuple(lists[1])))
                else:
                    self.assert_refused(BadBase, base_from, text)
        self.assertTrue(told > 20, told)

    def test_drawn_bases(self):
        source = random.Random(19)
        for time in range(400):
            kept = [source.choice(GREATEST_KEPT + [2, 3, 4, 5, 7, 9]) for place in range(source.randint(1, 7))]
            spare = [source.choice(GREATEST_SPARE + GREATEST_KEPT) for place in range(source.randint(0, 5))]
            text = "base " + " ".join("%d" % divisor for divisor in kept)
            if spare:
                text += " spare " + " ".join("%d" % divisor for divisor in spare)
            with self.subTest(text=text):
                if is_base_by_words(kept, spare):
                    self.assert_told(base_from(text), (tuple(kept), tuple(spare)))
                    self.assert_told(base_text((tuple(kept), tuple(spare))), text)
                else:
                    self.assert_refused(BadBase, base_from, text)


if __name__ == "__main__":
    unittest.main()
