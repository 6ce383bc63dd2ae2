"""Point 20: the texts of programs."""

import itertools
import random
import re
import unittest

from restfigures.errors import BadText, RowTooGreat
from restfigures.programs import bounds, looked, run
from restfigures.texts import program_from, program_text
from tests.helpers import RefusalCase
from tests.program_helpers import SIXTY_NINES, drawn_program, greatest_program, name_at

BASE = ((3, 5, 7), (11,))

EVERY_KIND = [
    ("in", "x", -4, 6),
    ("num", "five", 5),
    ("num", "less", -5),
    ("add", "s", "x", "five"),
    ("take", "t", "x", "five"),
    ("mul", "p", "x", "five"),
    ("div", "q", "t", 2),
]

EVERY_KIND_TEXT = """in x -4 6
five = 5
less = -5
s = x + five
t = x - five
p = x * five
q = t / 2"""

# No name, whatever stands beside it.
NO_NAMES = ("", "abcdefghi", "abcdefghijklmnopqrstuvwxyz", "A", "aB", "Abc", "a1", "1", "1a", "a_", "_", "a-b", "-a",
            "a.b", "in", "=", "+", "*", "/", "\u00e4", "\u03b1", "a\u0301", "x'", "~", "x=", "#")

SIGN_OF = {"add": "+", "take": "-", "mul": "*"}
DEED_OF = {"+": "add", "-": "take", "*": "mul"}
NAME = "([a-z]{1,8})"
NUMBER = "(0|-?[1-9][0-9]{0,59})"


def row_by_words(row):
    if row[0] == "in":
        return f"in {row[1]} {row[2]} {row[3]}"
    if row[0] == "num":
        return f"{row[1]} = {row[2]}"
    if row[0] == "div":
        return f"{row[1]} = {row[2]} / {row[3]}"
    return f"{row[1]} = {row[2]} {SIGN_OF[row[0]]} {row[3]}"


def read_by_words(line):
    """The row by the forms of point 20 and the bounds of point 14 on one row alone, None where it is none."""
    match = re.fullmatch(f"in {NAME} {NUMBER} {NUMBER}", line)
    if match:
        low, high = int(match[2]), int(match[3])
        return ("in", match[1], low, high) if low <= high and match[1] != "in" else None
    if line.startswith("in "):
        return None
    match = re.fullmatch(f"{NAME} = {NUMBER}", line)
    if match:
        return ("num", match[1], int(match[2]))
    match = re.fullmatch(f"{NAME} = {NAME} ([-+*]) {NAME}", line)
    if match:
        return (DEED_OF[match[3]], match[1], match[2], match[4])
    match = re.fullmatch(f"{NAME} = {NAME} / {NUMBER}", line)
    if match and int(match[3]) > 0:
        return ("div", match[1], match[2], int(match[3]))
    return None


class ProgramTextTest(RefusalCase):
    def test_each_kind_of_row(self):
        self.assert_told(program_text(EVERY_KIND), EVERY_KIND_TEXT)
        self.assert_told(program_from(EVERY_KIND_TEXT), EVERY_KIND)

    def test_the_empty_program(self):
        self.assert_told(program_text([]), "")
        self.assert_told(program_from(""), [])

    def test_one_row(self):
        for row, text in (
            (("in", "a", 0, 0), "in a 0 0"),
            (("in", "abcdefgh", -1, -1), "in abcdefgh -1 -1"),
            (("in", "z", -SIXTY_NINES, SIXTY_NINES), "in z -" + "9" * 60 + " " + "9" * 60),
            (("num", "a", 0), "a = 0"),
            (("num", "zzzzzzzz", -10), "zzzzzzzz = -10"),
            (("num", "inn", 10), "inn = 10"),
            (("num", "i", 10), "i = 10"),
            (("num", "num", SIXTY_NINES), "num = " + "9" * 60),
            (("num", "base", -SIXTY_NINES), "base = -" + "9" * 60),
        ):
            with self.subTest(row=row):
                self.assert_told(program_text([row]), text)
                self.assert_told(program_from(text), [row])

    def test_a_name_on_both_sides(self):
        program = [("num", "a", 2), ("mul", "b", "a", "a"), ("take", "c", "b", "b"), ("div", "d", "c", SIXTY_NINES)]
        self.assert_told(program_text(program), "a = 2\nb = a * a\nc = b - b\nd = c / " + "9" * 60)
        self.assert_told(program_from(program_text(program)), program)

    def test_sixty_rows_six_inputs_six_products(self):
        program = greatest_program()
        text = "\n".join(row_by_words(row) for row in program)
        self.assert_told(program_text(program), text)
        self.assert_told(program_from(text), program)

    def test_drawn_programs_read_back(self):
        source = random.Random(24)
        for time in range(300):
            great = source.choice((5, 10 ** 59))
            program = drawn_program(source, source.randint(0, 60), widest=great, most_inputs=6, greatest=great)
            with self.subTest(program=program):
                text = "\n".join(row_by_words(row) for row in program)
                self.assert_told(program_text(program), text)
                self.assert_told(program_from(text), program)

    def test_numbers_of_very_many_figures(self):
        """Bounds that were told may be handed in again, though they have more figures than are read."""
        program = [("in", "a", -SIXTY_NINES, SIXTY_NINES)]
        for place in range(53):
            program.append(("add", name_at(place), program[-1][1], program[-1][1]))
        for place in range(53, 59):
            program.append(("mul", name_at(place), program[-1][1], program[-1][1]))
        told = bounds(program)
        high = told[-1][2]
        self.assertEqual(high, (SIXTY_NINES * 2 ** 53) ** 64)
        text = program_text([("in", "a", -high, high), ("num", "b", high + 1), ("div", "c", "a", high)])
        figures = by_figures(high)
        self.assertTrue(len(figures) > 4800)
        one_more = figures[:-1] + "0123456789"[int(figures[-1]) + 1]
        self.assert_told(text, f"in a -{figures} {figures}\nb = {one_more}\nc = a / {figures}")
        self.assert_refused_at(BadText, 1, program_from, text)

    def test_numbers_about_each_count_of_figures(self):
        for count in list(range(1, 8)) + [59, 60, 61, 119, 120, 121, 179, 180, 181, 1000]:
            for number in (10 ** count - 1, 10 ** count, 10 ** count + 1, 3 * 10 ** count + 7):
                for sign in (1, -1):
                    with self.subTest(count=count, number=number, sign=sign):
                        self.assert_told(program_text([("num", "n", sign * number)]), "n = %d" % (sign * number))

    def test_own_lists(self):
        program = list(EVERY_KIND)
        program_text(program)
        self.assertEqual(program, EVERY_KIND)
        told = program_from(EVERY_KIND_TEXT)
        told.append(None)
        told[0] = None
        self.assert_told(program_from(EVERY_KIND_TEXT), EVERY_KIND)
        empty = program_from("")
        empty.append(None)
        self.assert_told(program_from(""), [])

    def test_what_was_read_is_run(self):
        program = program_from(EVERY_KIND_TEXT)
        self.assertEqual(len(run(BASE, program, [6])), 7)
        self.assert_told(bounds(program)[0], ("x", -4, 6))
        self.assert_told(looked(BASE, program), ("fits", [], 0))
        self.assert_refused_at(RowTooGreat, 1, run, BASE, program_from("a = 53"), [])

    def test_arguments_by_name(self):
        self.assert_told(program_text(program=[("num", "a", 1)]), "a = 1")
        self.assert_told(program_from(text="a = 1"), [("num", "a", 1)])


def by_figures(number):
    """The number's figures one by one, since Python's own writing has a bound."""
    told = []
    while number > 0:
        number, figure = divmod(number, 10)
        told.append("0123456789"[figure])
    return "".join(reversed(told))


class ProgramFromTest(RefusalCase):
    def assert_bad(self, row, text):
        with self.subTest(row=row, text=text[:200]):
            self.assert_refused_at(BadText, row, program_from, text)

    def assert_bad_line(self, line):
        """The line can not stand as the first row, nor as the fourth behind three that give names."""
        self.assert_bad(1, line + "\na = 1")
        self.assert_bad(4, "a = 1\nb = 2\nin c 0 1\n" + line)
        self.assert_bad(4, "a = 1\nb = 2\nin c 0 1\n" + line + "\nz = 1")

    def test_forms_of_rows(self):
        for line in (
            " ", "x", "x =", "x = ", "= 5", " = 5", "x 5", "x = 5 ", " x = 5", "x  = 5", "x =  5", "x=5", "x= 5",
            "x =5", "x == 5", "x : 5", "x = 5 6", "x = 5 = 6", "x = = 5", "x = x", "x = a", "x = a b", "x = a +",
            "x = + a", "x = a + b + c", "x = a + b c", "x = a + b ", "x = a  + b", "x = a +  b", "x = a+b",
            "x = a + 5", "x = 5 + a", "x = 5 + 6", "x = a - 5", "x = a * 5", "x = a ** b", "x = a // 5", "x = a % 5",
            "x = a ^ b", "x = a / b", "x = a /", "x = / 5", "x = 5 / 5", "x = a / 5 5", "x = a / 5 ", "x = a  / 5",
            "x = a /  5", "x = -a", "x = - a", "x = a , b", "in", "in ", "in x", "in x 1", "in x 1 ", "in x 1 2 3",
            "in x 1 2 ", "in  x 1 2", "in x  1 2", "in x 1  2", " in x 1 2", "in x a b", "in x 1 b", "in x a 2",
            "in = 5", "in = a + b", "in = a / 5", "in 1 2", "in x = 5", "in in 1 2", "inx 1 2", "In x 1 2",
            "IN x 1 2", "in x y 1 2", "x in 1 2", "num x 5", "add x a b", "x = num", "x = a add b", "in x 1 +2",
            "in x 01 2", "in x -0 2", "in x 1 2\r", "x\t=\t5", "#", "x = a + in", "x = in + a", "x = in / 5",
            "x := 5", "x = 5;",
        ):
            self.assert_bad_line(line)

    def test_names(self):
        for name in NO_NAMES:
            for line in (f"in {name} 0 1", f"{name} = 1", f"{name} = a + b", f"{name} = a / 2", f"x = {name} + a",
                         f"x = a - {name}", f"x = {name} * {name}", f"x = {name} / 2"):
                self.assert_bad_line(line)

    def test_a_name_of_eight_letters_and_of_nine(self):
        self.assert_told(program_from("abcdefgh = 1\nz = abcdefgh + abcdefgh"),
                         [("num", "abcdefgh", 1), ("add", "z", "abcdefgh", "abcdefgh")])
        self.assert_bad(1, "abcdefghi = 1\nz = abcdefghi + abcdefghi")
        self.assert_bad(1, "in abcdefghi 0 1")

    def test_a_name_given_twice(self):
        first = ("in a 0 1", "a = 1")
        again = ("in a 0 1", "a = 2", "a = a + b", "a = b - b", "a = b * a", "a = b / 2")
        for one, other in itertools.product(first, again):
            self.assert_bad(3, f"{one}\nb = 1\n{other}")
            self.assert_bad(3, f"b = 1\n{one}\n{other}\nz = 1")
        self.assert_bad(4, "a = 1\nb = 2\nc = a + b\nc = a + b")

    def test_a_name_that_no_earlier_row_gives(self):
        for line in ("x = x + a", "x = a + x", "x = x * x", "x = x / 2", "x = later + a", "x = a - later",
                     "x = later / 2", "x = later * later", "x = aa + a", "x = a + aa"):
            self.assert_bad(2, f"a = 1\n{line}\nlater = 5")
            self.assert_bad(1, f"{line}\na = 1\nlater = 5\nx = 1")

    def test_low_and_high(self):
        for low, high in ((0, 0), (-1, 0), (-5, -5), (-6, -5), (3, 9), (-SIXTY_NINES, SIXTY_NINES)):
            self.assert_told(program_from(f"in x {low} {high}"), [("in", "x", low, high)])
            self.assert_bad(1, f"in x {high + 1} {low}")
            self.assert_bad(2, f"in y {low} {high}\nin x {high + 1} {high}\nz = 1")
        self.assert_bad(1, "in x 1 0")
        self.assert_bad(1, "in x 0 -1")
        self.assert_bad(1, "in x 10 9")

    def test_what_is_divided_by(self):
        for by in (1, 2, 10, SIXTY_NINES):
            self.assert_told(program_from(f"a = 1\nx = a / {by}"), [("num", "a", 1), ("div", "x", "a", by)])
        for by in ("0", "-1", "-5", "-" + "9" * 60, "-0", "+1", "01", "00", "a", "", "1" * 61):
            self.assert_bad(2, f"a = 1\nx = a / {by}")

    def test_what_is_no_number(self):
        for word in ("", "-", "--1", "-0", "+1", "00", "01", "-01", "1.0", "1a", "1_0", "1e3", "0x1", "\u0663",
                     "\uff13", "\u00b3", "1" * 61, "-" + "1" * 61, "9" * 5000, "-" + "9" * 5000, "0" * 61):
            for line in (f"x = {word}", f"in x {word} 5", f"in x -5 {word}", f"x = a / {word}"):
                self.assert_bad_line(line)

    def test_sixty_figures(self):
        for word in ("9" * 60, "-" + "9" * 60, "1" + "0" * 59):
            self.assert_told(program_from(f"x = {word}"), [("num", "x", int(word))])
            self.assert_bad(1, f"x = {word}0")

    def test_empty_rows_and_line_feeds(self):
        for row, text in ((1, "\n"), (1, "\na = 1"), (2, "a = 1\n"), (2, "a = 1\n\nb = 1"), (3, "a = 1\nb = 1\n"),
                          (3, "a = 1\nb = 1\n\n"), (1, "\n\n\n"), (1, " "), (2, "a = 1\n "), (1, " \na = 1"),
                          (8, EVERY_KIND_TEXT + "\n"), (1, "\n" + EVERY_KIND_TEXT)):
            self.assert_bad(row, text)

    def test_the_sixty_first_row(self):
        rows = [f"{name_at(place)} = {place}" for place in range(62)]
        self.assertEqual(len(program_from("\n".join(rows[:60]))), 60)
        self.assert_bad(61, "\n".join(rows[:61]))
        self.assert_bad(61, "\n".join(rows[:62]))
        self.assert_bad(61, "\n".join(rows[:60]) + "\n")
        self.assert_bad(61, "\n".join(rows[:60]) + "\nin x 0 1")
        self.assert_bad(61, "\n".join(rows[:60]) + "\nx = ba + bb")
        self.assert_bad(61, "\n".join(rows[:60]) + "\nx = ba / 2")
        self.assert_bad(60, "\n".join(rows[:59]) + "\n\n")

    def test_the_seventh_input(self):
        rows = [f"in {name_at(place)} 0 1" for place in range(8)]
        self.assertEqual(len(program_from("\n".join(rows[:6]))), 6)
        self.assert_bad(7, "\n".join(rows[:7]))
        self.assert_bad(7, "\n".join(rows))
        mixed = rows[:3] + ["x = 1", "y = x + x"] + rows[3:6] + ["z = y * y"]
        self.assertEqual(len(program_from("\n".join(mixed))), 9)
        self.assert_bad(10, "\n".join(mixed + rows[6:]))

    def test_the_seventh_product(self):
        rows = ["a = 2"] + [f"{name_at(place)} = a * a" for place in range(8)]
        self.assertEqual(len(program_from("\n".join(rows[:7]))), 7)
        self.assert_bad(8, "\n".join(rows[:8]))
        self.assert_bad(8, "\n".join(rows))
        mixed = rows[:4] + ["in x 0 1", "y = x + x", "w = y / 2", "v = y - w"] + rows[4:7]
        self.assertEqual(len(program_from("\n".join(mixed))), 11)
        self.assert_bad(12, "\n".join(mixed + rows[7:]))

    def test_many_rows_of_the_other_kinds(self):
        rows = ["a = 1"] + [f"{name_at(place)} = a {'+-'[place % 2]} a" for place in range(30)]
        rows += [f"{name_at(place)} = a / 7" for place in range(30, 59)]
        self.assertEqual(len(program_from("\n".join(rows))), 60)

    def test_the_first_of_two_rows_at_fault(self):
        faults = ("", "x", "x = 01", "in = 5", "a = 1", "x = x + x", "in x 1 0", "x = a / 0", "abcdefghi = 1")
        for one, other in itertools.product(faults, repeat=2):
            self.assert_bad(2, f"a = 1\n{one}\n{other}")
            self.assert_bad(3, f"a = 1\nb = a * a\n{one}\nc = 1\n{other}")

    def test_a_fault_at_each_row(self):
        rows = program_text(greatest_program()).split("\n")
        for place in range(60):
            for line in ("", rows[place] + " ", rows[place] + " 1", rows[(place + 1) % 60].upper(), "in in 0 1",
                         rows[place - 1] if place > 0 else "ba = bb + bb"):
                self.assert_bad(place + 1, "\n".join(rows[:place] + [line] + rows[place + 1:]))

    def test_every_short_row(self):
        """All rows of up to five words, behind a row that gives a, held against the forms of point 20."""
        read_back = 0
        for length in range(1, 6):
            for words in itertools.product(("in", "a", "x", "=", "+", "*", "/", "3", "-2", ""), repeat=length):
                text = "a = 1\n" + " ".join(words)
                want = program_by_words(text)
                if isinstance(want, list):
                    read_back += 1
                    self.assert_told(program_from(text), want)
                else:
                    with self.assertRaises(BadText) as caught:
                        program_from(text)
                    self.assertEqual(caught.exception.row, want, text)
        # Three inputs, two numbers, a sum, a product and a quotient.
        self.assertEqual(read_back, 8)

    def test_texts_changed_at_one_sign(self):
        """Each text that differs at one sign is read as the same words tell, row by row."""
        text = "in x -4 6\nfive = 5\np = x * five\nq = p / 12"
        for place in range(len(text)):
            for sign in ("", " ", "\n", "a", "0", "1", "-", "=", "x"):
                changed = text[:place] + sign + text[place + 1:]
                want = program_by_words(changed)
                with self.subTest(changed=changed):
                    if isinstance(want, list):
                        self.assert_told(program_from(changed), want)
                    else:
                        self.assert_refused_at(BadText, want, program_from, changed)


def program_by_words(text):
    """The program, or the number of the first row that can not stand there."""
    program = []
    for number, line in enumerate(text.split("\n"), start=1):
        row = read_by_words(line)
        given = [earlier[1] for earlier in program]
        read = () if row is None or row[0] in ("in", "num") else row[2:3] if row[0] == "div" else row[2:]
        if row is None or row[1] in given or row[1] == "in" or any(name not in given for name in read):
            return number
        program.append(row)
    return program


if __name__ == "__main__":
    unittest.main()
