import unittest
from itertools import product

from helper import (BY_HAND, NEITHER, NUMBERS, ROWS, TEXTLESS, leaves_as_it_was, refuses,
                    rows_up_to)
from leanfigures import notes
from leanfigures.errors import NoRow, NoText
from leanfigures.figures import lean, worth
from leanfigures.notes import read, shown

# Rows, and by hand the texts that show them.
SHOWN = [
    ([], "0"),
    ([1], "+"),
    ([-1], "-"),
    ([0, 1], "+0"),
    ([0, -1], "-0"),
    ([1, -1], "-+"),
    ([-1, 1], "+-"),
    ([1, 1], "++"),
    ([-1, -1], "--"),
    ([-1, 0, 0, 1], "+00-"),
    ([1, 0, 0, -1], "-00+"),
    ([1, 1, 1], "+++"),
    ([1, 1, -1, -1, 1], "+--++"),
    ([0, 0, 0, 0, -1], "-0000"),
    ([0, -1, 0, -1, 0, 1], "+0-0-0"),
]

# Texts that show no row.
NO_TEXTS = [
    "", "00", "000", "0+", "0-", "0+00-", "00+", "0" * 5000, "0" + "+" * 5000,
    "1", "-1", "+1", "+2", "10", "2", "+a", "a", "d", "u", "w", "+=", "*", "O", "+O", "+o",
    "~", "_", "+_0", "--1", "+,0", "+.0", ".", "e", "+e0", "None", "[]", "[1]",
    " ", "  ", " +", "+ ", "+ 0", " 0", "0 ", "+0 ", " -", "- ",
    "\n", "0\n", "\n0", "+\n", "\n+", "+\n0", "+00-\n", "0\n0", "\t", "+\t", "\t0", "0\t", "\r", "+\r\n",
    "+" * 2000 + "1" + "+" * 2000, "+" * 5000 + " ", " " + "+" * 5000, "+" * 5000 + "\n",
]


class Shown(unittest.TestCase):
    def test_by_hand(self):
        for row, text in SHOWN:
            with self.subTest(row):
                self.assertEqual(shown(row), text)
                self.assertIs(type(shown(row)), str)

    def test_seven_in_its_lean_row(self):
        self.assertEqual(shown(lean(7)), "+00-")

    def test_long_rows(self):
        self.assertEqual(shown([0] * 3000 + [1]), "+" + "0" * 3000)
        self.assertEqual(shown([-1] * 3000), "-" * 3000)
        self.assertEqual(shown([1, 0, -1] * 1500), "-0+" * 1500)

    def test_refuses_what_is_no_row(self):
        refuses(self, shown, NEITHER + NUMBERS, NoRow)

    def test_the_row_stays_as_it_was(self):
        leaves_as_it_was(self, shown)

    def test_the_row_is_not_kept(self):
        row = [1]
        before = shown(row)
        row.append(-1)
        self.assertEqual((before, shown(row)), ("+", "-+"))


class Read(unittest.TestCase):
    def test_by_hand(self):
        for row, text in SHOWN:
            with self.subTest(text):
                self.assertEqual(read(text), row)
                self.assertIs(type(read(text)), list)
                self.assertTrue(all(type(figure) is int for figure in read(text)))

    def test_worth_of_what_is_read(self):
        self.assertEqual(worth(read("+00-")), 7)
        self.assertEqual(worth(read("+++")), 7)
        self.assertEqual(worth(read("-0")), -2)
        self.assertEqual(worth(read("0")), 0)

    def test_long_texts(self):
        self.assertEqual(read("+" + "0" * 3000), [0] * 3000 + [1])
        self.assertEqual(read("-" * 3000), [-1] * 3000)
        self.assertEqual(read("-0+" * 1500), [1, 0, -1] * 1500)

    def test_read_of_what_is_shown_is_the_row_again(self):
        long_rows = [lean(3 ** 2000), lean(-(7 ** 1500)), [1] * 4000, [0] * 4000 + [-1]]
        for row in rows_up_to(6) + ROWS + long_rows:
            self.assertEqual(read(shown(row)), row)

    def test_shown_of_what_is_read_is_the_text_again(self):
        for length in range(1, 7):
            for signs in product("+0-", repeat=length):
                text = "".join(signs)
                if text == "0" or signs[0] != "0":
                    self.assertEqual(shown(read(text)), text)

    def test_all_short_texts(self):
        texts = {text: row for row, text in SHOWN}
        for length in range(4):
            for signs in product("+0- 1d\n", repeat=length):
                text = "".join(signs)
                shows = text == "0" or (text != "" and set(text) <= set("+0-") and text[0] != "0")
                if shows:
                    self.assertEqual(read(text), texts.get(text, read(text)))
                else:
                    self.assertRaises(NoText, read, text)

    def test_refuses_texts_that_show_no_row(self):
        refuses(self, read, NO_TEXTS, NoText)

    def test_refuses_each_other_sign_in_each_place(self):
        for number in range(32, 127):
            sign = chr(number)
            if sign not in "+0-%":
                refuses(self, read, [sign, sign + "0-", "+" + sign + "-", "+0" + sign], NoText)

    def test_refuses_what_is_no_text(self):
        refuses(self, read, TEXTLESS + [b"+", b"0", b"+00-", ["+", "0"], ("+",), {"+": 1}], NoText)

    def test_what_is_told_is_the_askers_own(self):
        for row, text in SHOWN:
            told = read(text)
            told.append(1)
            told[0] = -1
            self.assertEqual(read(text), row)
            read(text).clear()
            self.assertEqual(read(text), row)
            kept = read(text)
            read("+0-")
            shown(kept)
            self.assertEqual(kept, row)


class Interface(unittest.TestCase):
    def test_each_function_is_defined_in_its_file(self):
        for name in ("shown", "read"):
            self.assertEqual(getattr(notes, name).__module__, "leanfigures.notes")

    def test_arguments_have_their_names(self):
        self.assertEqual(shown(row=[0, 1]), "+0")
        self.assertEqual(read(text="+0"), [0, 1])

    def test_rows_by_hand_are_shown_and_read(self):
        for row, number, _, _ in BY_HAND:
            self.assertEqual(worth(read(shown(row))), number)


if __name__ == "__main__":
    unittest.main()
