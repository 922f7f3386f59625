import unittest
from itertools import product

from helper import (BY_HAND, NEITHER, NUMBERS, ROWS, leaves_as_it_was, numbers_tried, refuses,
                    rows_up_to, summed)
from leanfigures import figures
from leanfigures.errors import NoNumber, NoRow
from leanfigures.figures import is_lean, is_row, lean, weight, worth


class IsRow(unittest.TestCase):
    def test_rows(self):
        for row, *_ in BY_HAND:
            with self.subTest(row):
                self.assertIs(is_row(row), True)

    def test_long_rows(self):
        self.assertIs(is_row([0] * 5000 + [1]), True)
        self.assertIs(is_row([-1, 1] * 5000), True)
        self.assertIs(is_row([1] * 5000 + [0]), False)
        self.assertIs(is_row([1] * 2500 + [2] + [1] * 2500), False)
        self.assertIs(is_row([1] * 2500 + [True] + [1] * 2500), False)

    def test_all_lists_of_few_numbers(self):
        for length in range(5):
            for numbers in product((-2, -1, 0, 1, 2), repeat=length):
                wanted = all(abs(number) < 2 for number in numbers) and numbers[-1:] != (0,)
                self.assertIs(is_row(list(numbers)), wanted, numbers)

    def test_what_is_no_row(self):
        for at, thing in enumerate(NEITHER):
            with self.subTest(at=at):
                self.assertIs(is_row(thing), False)

    def test_numbers_are_no_rows(self):
        for number in (0, 1, -1, 7, 10 ** 5000):
            self.assertIs(is_row(number), False)

    def test_the_thing_stays_as_it_was(self):
        for thing in ([1, 0, 1], [1, 0], [1, True], [2], []):
            before = list(thing)
            is_row(thing)
            self.assertEqual(thing, before)


class Worth(unittest.TestCase):
    def test_by_hand(self):
        for row, wanted, _, _ in BY_HAND:
            with self.subTest(row):
                self.assertEqual(worth(row), wanted)
                self.assertIs(type(worth(row)), int)

    def test_all_rows_of_few_figures(self):
        for row in rows_up_to(7):
            self.assertEqual(worth(row), summed(row), row)

    def test_long_rows(self):
        self.assertEqual(worth([0] * 1500 + [1]), 2 ** 1500)
        self.assertEqual(worth([0] * 1500 + [-1]), -(2 ** 1500))
        self.assertEqual(worth([1] * 3000), 2 ** 3000 - 1)
        self.assertEqual(worth([-1] * 3000), 1 - 2 ** 3000)
        self.assertEqual(worth([-1] + [0] * 2999 + [1]), 2 ** 3000 - 1)
        self.assertEqual(worth([1, 0] * 2000 + [1]), (4 ** 2001 - 1) // 3)
        self.assertTrue(worth([0] * 20000 + [1]) == 2 ** 20000)
        mixed = [-1, 0, 1, 1, 0, -1, -1] * 300
        self.assertEqual(worth(mixed), summed(mixed))

    def test_refuses_what_is_no_row(self):
        refuses(self, worth, NEITHER + NUMBERS, NoRow)

    def test_the_row_stays_as_it_was(self):
        leaves_as_it_was(self, worth)

    def test_the_row_is_not_kept(self):
        row = [1]
        self.assertEqual(worth(row), 1)
        row.append(1)
        self.assertEqual(worth(row), 3)
        row.append(0)
        with self.assertRaises(NoRow):
            worth(row)


class Weight(unittest.TestCase):
    def test_by_hand(self):
        for row, _, wanted, _ in BY_HAND:
            with self.subTest(row):
                self.assertEqual(weight(row), wanted)
                self.assertIs(type(weight(row)), int)

    def test_long_rows(self):
        self.assertEqual(weight([0] * 1500 + [1]), 1)
        self.assertEqual(weight([-1] * 3000), 3000)
        self.assertEqual(weight([1, 0, -1, 0, 0] * 1000 + [1]), 2001)

    def test_refuses_what_is_no_row(self):
        refuses(self, weight, NEITHER + NUMBERS, NoRow)

    def test_the_row_stays_as_it_was(self):
        leaves_as_it_was(self, weight)


class IsLean(unittest.TestCase):
    def test_by_hand(self):
        for row, _, _, wanted in BY_HAND:
            with self.subTest(row):
                self.assertIs(is_lean(row), wanted)

    def test_each_pair_of_neighbours_counts(self):
        for one in (-1, 1):
            for other in (-1, 1):
                for before in range(6):
                    row = [0] * before + [one, other]
                    self.assertIs(is_lean(row), False, row)
                    self.assertIs(is_lean(row + [0, 1]), False, row)
                    self.assertIs(is_lean([0] * before + [one, 0, other]), True, row)

    def test_long_rows(self):
        self.assertIs(is_lean([1, 0] * 2000 + [-1]), True)
        self.assertIs(is_lean([0] * 4000 + [-1]), True)
        self.assertIs(is_lean([0] * 4000 + [-1, 1]), False)
        self.assertIs(is_lean([1, -1] + [0] * 4000 + [1]), False)

    def test_refuses_what_is_no_row(self):
        refuses(self, is_lean, NEITHER + NUMBERS, NoRow)

    def test_the_row_stays_as_it_was(self):
        leaves_as_it_was(self, is_lean)


class Lean(unittest.TestCase):
    def test_by_hand(self):
        wanted = {
            0: [], 1: [1], 2: [0, 1], 3: [-1, 0, 1], 4: [0, 0, 1], 5: [1, 0, 1],
            6: [0, -1, 0, 1], 7: [-1, 0, 0, 1], 8: [0, 0, 0, 1], 9: [1, 0, 0, 1],
            10: [0, 1, 0, 1], 11: [-1, 0, -1, 0, 1], 12: [0, 0, -1, 0, 1],
            13: [1, 0, -1, 0, 1], 22: [0, -1, 0, -1, 0, 1], 21: [1, 0, 1, 0, 1],
        }
        for number, row in wanted.items():
            with self.subTest(number):
                self.assertEqual(lean(number), row)
                self.assertEqual(lean(-number), [-figure for figure in row])

    def test_near_long_powers_of_two(self):
        for many in (62, 63, 64, 1000, 3000):
            self.assertEqual(lean(2 ** many), [0] * many + [1])
            self.assertEqual(lean(2 ** many - 1), [-1] + [0] * (many - 1) + [1])
            self.assertEqual(lean(2 ** many + 1), [1] + [0] * (many - 1) + [1])
            self.assertEqual(lean(-(2 ** many)), [0] * many + [-1])
            self.assertEqual(lean(1 - 2 ** many), [1] + [0] * (many - 1) + [-1])

    def test_near_a_third_of_a_long_power_of_two(self):
        for many in (10, 500, 1500):
            third = (4 ** many - 1) // 3
            self.assertEqual(lean(third), [1, 0] * (many - 1) + [1])
            self.assertEqual(lean(-third), [-1, 0] * (many - 1) + [-1])
            self.assertEqual(lean(2 * third), [0, 1] * many)
            self.assertEqual(lean(2 * third + 1), [-1, 0] * many + [1])

    def test_the_row_is_lean_and_worth_the_number(self):
        for number in numbers_tried():
            row = lean(number)
            self.assertIs(type(row), list)
            self.assertTrue(all(type(figure) is int for figure in row))
            self.assertTrue(set(row) <= {-1, 0, 1} and row[-1:] != [0])
            self.assertFalse(any(one and other for one, other in zip(row, row[1:])))
            self.assertTrue(summed(row) == number)
            self.assertIs(is_row(row), True)
            self.assertIs(is_lean(row), True)
            self.assertTrue(worth(row) == number)

    def test_very_long_numbers(self):
        for number in (2 ** 200000 // 3, -(2 ** 200000) // 7, 3 ** 100000):
            row = lean(number)
            self.assertTrue(is_lean(row))
            self.assertTrue(worth(row) == number)

    def test_a_lean_row_is_the_only_one_of_its_worth(self):
        found = {}
        for row in rows_up_to(9):
            if is_lean(row):
                self.assertNotIn(summed(row), found)
                found[summed(row)] = row
                self.assertEqual(lean(summed(row)), row)
        self.assertTrue(all(number in found for number in range(-170, 171)))

    def test_no_row_of_the_same_worth_has_less_weight(self):
        for row in rows_up_to(8):
            least = weight(lean(worth(row)))
            self.assertLessEqual(least, len([figure for figure in row if figure]), row)

    def test_what_is_told_is_the_askers_own(self):
        for number in (0, 1, -1, 7, -7, 2 ** 70 // 3):
            told = lean(number)
            before = list(told)
            told.append(1)
            told[0] = -1
            self.assertEqual(lean(number), before)
            lean(number).clear()
            self.assertEqual(lean(number), before)
            kept = lean(number)
            lean(number + 1)
            worth(kept)
            self.assertEqual(kept, before)

    def test_refuses_what_is_no_number(self):
        refuses(self, lean, NEITHER + ROWS, NoNumber)


class Interface(unittest.TestCase):
    def test_each_function_is_defined_in_its_file(self):
        for name in ("is_row", "worth", "weight", "is_lean", "lean"):
            self.assertEqual(getattr(figures, name).__module__, "leanfigures.figures")

    def test_arguments_have_their_names(self):
        self.assertIs(is_row(thing=[1]), True)
        self.assertEqual(worth(row=[0, 1]), 2)
        self.assertEqual(weight(row=[0, 1]), 1)
        self.assertIs(is_lean(row=[0, 1]), True)
        self.assertEqual(lean(number=2), [0, 1])


if __name__ == "__main__":
    unittest.main()
