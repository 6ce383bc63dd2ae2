"""Point 1: what is told is the asker's own, and what is handed in stays as it was."""

import unittest

from restfigures.change import put_in, taken_out
from restfigures.deeds import added, multiplied, quotient, rest, scaled, taken, turned
from restfigures.digits import compared, digits, sign
from restfigures.figures import figure_of, is_right, number_of
from restfigures.mending import mended
from restfigures.programs import looked, run
from restfigures.tables import row_product, table_product
from restfigures.texts import figure_from, figure_text, read, written
from tests.helpers import RefusalCase, rests

BASE = ((3, 5, 7), (11, 13))
NOUGHT = [0, 0, 0, 0, 0]
ONE = [1, 1, 1, 1, 1]
EIGHT = rests(BASE, 8)
MINUS_EIGHT = rests(BASE, -8)
EIGHT_WITH_ONE_WRONG = [0] + EIGHT[1:]
LOST = [0, 0] + EIGHT[2:]
PROGRAM = [("in", "x", -8, 9), ("num", "one", 1), ("mul", "y", "x", "one"), ("div", "z", "y", 1),
           ("add", "w", "x", "z")]
SQUARE = [("in", "x", -8, 9), ("mul", "y", "x", "x")]

# Among them those whose answer is like what is handed in.
ASKED = (
    (figure_of, (8,)),
    (number_of, (EIGHT,)),
    (is_right, (EIGHT,)),
    (digits, (EIGHT,)),
    (digits, (NOUGHT,)),
    (sign, (EIGHT,)),
    (compared, (EIGHT, ONE)),
    (added, (EIGHT, ONE)),
    (added, (EIGHT, NOUGHT)),
    (added, (NOUGHT, EIGHT)),
    (taken, (EIGHT, ONE)),
    (taken, (EIGHT, NOUGHT)),
    (multiplied, (EIGHT, ONE)),
    (multiplied, (ONE, EIGHT)),
    (multiplied, (NOUGHT, EIGHT)),
    (turned, (EIGHT,)),
    (turned, (NOUGHT,)),
    (quotient, (EIGHT, 1)),
    (quotient, (MINUS_EIGHT, 3)),
    (rest, (MINUS_EIGHT, 3)),
    (scaled, (EIGHT, [])),
    (scaled, (EIGHT, [2, 0])),
    (put_in, (EIGHT, [], [])),
    (put_in, (EIGHT, [2], [17])),
    (taken_out, (EIGHT, [])),
    (taken_out, (EIGHT, [0, 4])),
    (taken_out, (EIGHT, [3, 4])),
    (mended, (EIGHT,)),
    (mended, (EIGHT_WITH_ONE_WRONG,)),
    (mended, (LOST,)),
    (row_product, ([], [])),
    (row_product, ([EIGHT], [ONE])),
    (row_product, ([EIGHT, NOUGHT], [ONE, ONE])),
    (table_product, ([[EIGHT]], [[ONE]])),
    (table_product, ([[EIGHT, NOUGHT], [NOUGHT, EIGHT]], [[ONE, NOUGHT], [NOUGHT, ONE]])),
    (run, (PROGRAM, [8])),
    (run, ([], [])),
    (looked, (PROGRAM,)),
    (looked, (SQUARE,)),
    (looked, ([("num", "n", 53)],)),
    (figure_text, (EIGHT,)),
    (figure_text, (LOST,)),
    (figure_from, ("2.3.1:8.8",)),
    (written, (MINUS_EIGHT,)),
    (read, ("8",)),
)


def copied(given):
    """Copies of all lists, so that none in it is one with another."""
    if isinstance(given, (list, tuple)):
        parts = [copied(part) for part in given]
        return parts if isinstance(given, list) else tuple(parts)
    return given


def lists_in(told):
    """The list itself, where it is one, and all within it."""
    if not isinstance(told, (list, tuple)):
        return []
    within = [one for part in told for one in lists_in(part)]
    return [told] + within if isinstance(told, list) else within


def spoil(parts):
    for part in parts:
        part.append(99)
        part[0] = -7


class OwnListsTest(RefusalCase):
    def test_what_is_handed_in_stays(self):
        for call, asked in ASKED:
            given = copied(asked)
            with self.subTest(call=call.__name__, asked=asked):
                call(BASE, *given)
                self.assertEqual(given, asked)
                self.assertEqual(BASE, ((3, 5, 7), (11, 13)))

    def test_no_list_told_is_one_with_another(self):
        for call, asked in ASKED:
            given = copied(asked)
            with self.subTest(call=call.__name__, asked=asked):
                told = lists_in(call(BASE, *given)) + lists_in(call(BASE, *given))
                every = told + lists_in(given)
                self.assertEqual(len({id(part) for part in every}), len(every))

    def test_a_list_told_and_changed_is_told_anew_as_it_was(self):
        for call, asked in ASKED:
            given = copied(asked)
            with self.subTest(call=call.__name__, asked=asked):
                want = call(BASE, *copied(asked))
                spoil(lists_in(call(BASE, *given)))
                self.assertEqual(given, asked)
                self.assert_told(call(BASE, *given), want)

    def test_what_was_handed_in_and_changed_leaves_what_was_told(self):
        for call, asked in ASKED:
            given = copied(asked)
            with self.subTest(call=call.__name__, asked=asked):
                want = call(BASE, *copied(asked))
                told = call(BASE, *given)
                spoil(lists_in(given))
                self.assert_told(told, want)

    def test_one_list_handed_in_twice(self):
        for call in (added, taken, multiplied, compared):
            figure = rests(BASE, 6)
            with self.subTest(call=call.__name__):
                told = call(BASE, figure, figure)
                self.assert_told(told, call(BASE, rests(BASE, 6), rests(BASE, 6)))
                self.assertIsNot(told, figure)
                self.assertEqual(figure, rests(BASE, 6))

    def test_one_list_as_kept_and_as_spare_ones_or_as_places(self):
        none = []
        self.assert_told(put_in(BASE, EIGHT, none, none), (BASE, EIGHT))
        self.assertEqual(none, [])
        figure = [0, 1]
        self.assert_told(scaled(((2, 3), ()), [1, 1], [0, 1]), [0, 0])
        self.assert_told(scaled(((2, 3), ()), figure, figure), scaled(((2, 3), ()), [0, 1], [0, 1]))
        self.assertEqual(figure, [0, 1])

    def test_the_bases_told_hold_tuples(self):
        for told in (put_in(BASE, EIGHT, [], []), put_in(BASE, EIGHT, [2], [17]), taken_out(BASE, EIGHT, [0, 4]),
                     taken_out(BASE, EIGHT, [3, 4])):
            with self.subTest(told=told):
                self.assertEqual([type(part) for part in (told, told[0]) + told[0]], [tuple] * 4)
                self.assertIs(type(told[1]), list)

    def test_what_was_told_may_be_handed_in_again(self):
        wider, figure = put_in(BASE, EIGHT, [2], [17])
        self.assert_told(number_of(wider, added(wider, figure, figure)), 16)
        self.assert_told(mended(wider, turned(wider, figure)), ("right", -8, []))
        word, number, places = mended(BASE, EIGHT_WITH_ONE_WRONG)
        narrower, left = taken_out(BASE, figure_of(BASE, number), places)
        self.assert_told((narrower, left), (((5, 7), (11, 13)), [3, 1, 8, 8]))


if __name__ == "__main__":
    unittest.main()
