import unittest

from helper import (BY_HAND, NEITHER, NUMBERS, OTHERS, ROWS, leaves_as_it_was, refuses,
                    rows_up_to, summed)
from leanfigures import works
from leanfigures.errors import NoRow
from leanfigures.figures import is_lean, is_row, lean
from leanfigures.works import added, compared, multiplied, negated, together

# Numbers of hundreds and of thousands of places, of either sign.
LONG_NUMBERS = [
    2 ** 300, -(2 ** 300), 2 ** 900 - 1, 1 - 2 ** 900, 2 ** 901 // 3, -(2 ** 902 // 3),
    3 ** 400, -(3 ** 401), 7 ** 250, -(7 ** 251), 10 ** 300 + 7, 2 ** 5000 // 7, -(3 ** 3000),
]

# Long rows that are not lean.
LONG_ROWS = [
    [1] * 700, [-1] * 701, [1, -1] * 400, [-1, 1, 0, 1, 1] * 200, [0, 0, 1, 1, -1] * 300,
    [0] * 500 + [-1, 1],
]

NO_ROWS = NEITHER + NUMBERS


def rows_tried():
    """Pairs of a row and its worth, short and long, lean and not."""
    short = [(row, summed(row)) for row in rows_up_to(3) + ROWS]
    long = [(row, summed(row)) for row in LONG_ROWS]
    not_lean = [(row, summed(row)) for row in LONG_ROWS]
    return short + not_lean + [(lean(number), number) for number in LONG_NUMBERS]


class Worked(unittest.TestCase):
    def told(self, row, number):
        """Check that what was told is the lean row of a number, made of plain numbers."""
        self.assertIs(type(row), list)
        self.assertTrue(all(type(figure) is int for figure in row))
        self.assertIs(is_row(row), True)
        self.assertIs(is_lean(row), True)
        self.assertTrue(summed(row) == number)

    def leaves_both_as_they_were(self, function):
        for one in ([], [1], [1, 1, 1], [-1, 0, 0, 1], [1, -1] * 300):
            for other in ([], [-1], [1, 1], [0, -1, 0, 1], [1] * 500):
                before = list(one), list(other)
                function(one, other)
                self.assertEqual((one, other), before)
        for one, other in (([1, 0], [1]), ([1], [2, 1]), ([True], [1]), ([1], [1, None])):
            before = list(one), list(other)
            self.assertRaises(NoRow, function, one, other)
            self.assertEqual((one, other), before)

    def refuses_either(self, function):
        refuses(self, lambda thing: function(thing, [1]), NO_ROWS, NoRow)
        refuses(self, lambda thing: function([1], thing), NO_ROWS, NoRow)
        refuses(self, lambda thing: function(thing, []), NO_ROWS, NoRow)
        refuses(self, lambda thing: function([], thing), NO_ROWS, NoRow)
        refuses(self, lambda thing: function(thing, thing), NO_ROWS, NoRow)

    def is_the_askers_own(self, function, *handed):
        before = list(function(*handed))
        first = function(*handed)
        for row in handed:
            self.assertIsNot(first, row)
        first.append(1)
        first[0] = -1
        self.assertEqual(function(*handed), before)
        function(*handed).clear()
        kept = function(*handed)
        self.assertEqual(kept, before)
        for row in handed:
            row.append(1)
            row[0] = -1
        self.assertEqual(kept, before)


class Negated(Worked):
    def test_by_hand(self):
        wanted = [
            ([], []), ([1], [-1]), ([-1], [1]), ([0, 1], [0, -1]), ([-1, 0, 0, 1], [1, 0, 0, -1]),
            ([1, 1, 1], [1, 0, 0, -1]), ([1, 1], [1, 0, -1]), ([-1, 1], [-1]),
            ([-1, -1], [-1, 0, 1]), ([0, 0, -1, -1, -1], [0, 0, -1, 0, 0, 1]),
        ]
        for row, told in wanted:
            with self.subTest(row):
                self.assertEqual(negated(row), told)

    def test_all_rows_of_few_figures_and_long_ones(self):
        for row, number in [(row, summed(row)) for row in rows_up_to(6)] + rows_tried():
            self.told(negated(row), -number)

    def test_twice_is_the_lean_row(self):
        for row, number in rows_tried():
            self.assertEqual(negated(negated(row)), lean(number))

    def test_refuses_what_is_no_row(self):
        refuses(self, negated, NO_ROWS, NoRow)

    def test_the_row_stays_as_it_was(self):
        leaves_as_it_was(self, negated)

    def test_what_is_told_is_the_askers_own(self):
        for row in ([], [1], [1, 1, 1], [-1, 0, 0, 1], [1, 0] * 300 + [1]):
            self.is_the_askers_own(negated, list(row))


class Added(Worked):
    def test_by_hand(self):
        wanted = [
            ([], [], []), ([1], [], [1]), ([], [1], [1]), ([1], [-1], []), ([1], [1], [0, 1]),
            ([0, 1], [1], [-1, 0, 1]), ([1, 1], [], [-1, 0, 1]), ([], [1, 1, 1], [-1, 0, 0, 1]),
            ([-1, 0, 0, 1], [1], [0, 0, 0, 1]), ([-1, 0, 0, 1], [1, 0, 0, -1], []),
            ([1, 0, 1], [-1, -1], [0, 1]), ([0, -1], [-1], [1, 0, -1]), ([-1, 1], [1, -1], []),
        ]
        for one, other, told in wanted:
            with self.subTest(f"{one} {other}"):
                self.assertEqual(added(one, other), told)

    def test_against_sums(self):
        for one, first in rows_tried():
            for other, second in rows_tried():
                self.told(added(one, other), first + second)

    def test_a_row_to_itself(self):
        for row, number in rows_tried():
            self.told(added(row, row), 2 * number)

    def test_refuses_what_is_no_row_in_either_place(self):
        self.refuses_either(added)

    def test_the_rows_stay_as_they_were(self):
        self.leaves_both_as_they_were(added)

    def test_what_is_told_is_the_askers_own(self):
        for one, other in (([], []), ([1], []), ([], [1]), ([1, 1], [1]), ([1, 0, 1], [0, -1])):
            self.is_the_askers_own(added, list(one), list(other))


class Multiplied(Worked):
    def test_by_hand(self):
        wanted = [
            ([], [], []), ([1], [], []), ([], [1, 1], []), ([1], [1], [1]), ([1], [-1], [-1]),
            ([-1], [-1], [1]), ([1], [1, 1, 1], [-1, 0, 0, 1]), ([1, 1], [1], [-1, 0, 1]),
            ([0, 1], [0, 1], [0, 0, 1]), ([-1, 0, 1], [-1, 0, 1], [1, 0, 0, 1]),
            ([1, 1], [-1, -1], [-1, 0, 0, -1]), ([1, 0, 1], [1, 1, 1], [-1, 0, 1, 0, 0, 1]),
        ]
        for one, other, told in wanted:
            with self.subTest(f"{one} {other}"):
                self.assertEqual(multiplied(one, other), told)

    def test_against_products(self):
        for one, first in rows_tried():
            for other, second in rows_tried():
                self.told(multiplied(one, other), first * second)

    def test_a_row_by_itself(self):
        for row, number in rows_tried():
            self.told(multiplied(row, row), number * number)

    def test_refuses_what_is_no_row_in_either_place(self):
        self.refuses_either(multiplied)

    def test_the_rows_stay_as_they_were(self):
        self.leaves_both_as_they_were(multiplied)

    def test_what_is_told_is_the_askers_own(self):
        for one, other in (([], []), ([1], []), ([], [1]), ([1], [1, 1]), ([1], [0, 1]), ([0, 1], [1])):
            self.is_the_askers_own(multiplied, list(one), list(other))


class Compared(Worked):
    def test_by_hand(self):
        wanted = [
            ([], [], 0), ([1], [], 1), ([-1], [], -1), ([1], [-1], 1), ([1], [1], 0),
            ([0, 1], [1], 1), ([0, -1], [-1], -1), ([1, 1, 1], [-1, 0, 0, 1], 0),
            ([-1, 1], [1], 0), ([1, -1], [-1], 0), ([0, 0, 1], [1, 1, 1], -1),
            ([1, 1, -1, -1, 1], [1, 1, 1], 0), ([1, 1, 1], [0, 0, 0, -1], 1),
            ([1, 0, 1], [-1, -1, -1, 1], 1), ([-1, -1, 1], [1], 0),
        ]
        for one, other, told in wanted:
            with self.subTest(f"{one} {other}"):
                self.assertEqual(compared(one, other), told)
                self.assertEqual(compared(other, one), -told)
                self.assertIs(type(compared(one, other)), int)

    def test_against_the_worths(self):
        for one, first in rows_tried():
            for other, second in rows_tried():
                wanted = 1 if first > second else -1 if first < second else 0
                told = compared(one, other)
                self.assertIs(type(told), int)
                self.assertEqual(told, wanted)

    def test_long_rows_that_are_worth_nearly_the_same(self):
        for number in LONG_NUMBERS:
            self.assertEqual(compared(lean(number), lean(number)), 0)
            self.assertEqual(compared(lean(number + 1), lean(number)), 1)
            self.assertEqual(compared(lean(number - 1), lean(number)), -1)
        self.assertEqual(compared([1] * 3000, [-1] + [0] * 2999 + [1]), 0)
        self.assertEqual(compared([1] * 3000, [0] * 3000 + [1]), -1)

    def test_refuses_what_is_no_row_in_either_place(self):
        self.refuses_either(compared)

    def test_the_rows_stay_as_they_were(self):
        self.leaves_both_as_they_were(compared)


class Together(Worked):
    def test_by_hand(self):
        wanted = [
            ([], []), ([[]], []), ([[], [], []], []), ([[1]], [1]), ([[1, 1, 1]], [-1, 0, 0, 1]),
            ([[1], [1]], [0, 1]), ([[1], [-1]], []), ([[1], [1], [1]], [-1, 0, 1]),
            ([[1, 1], [], [0, 0, 1]], [-1, 0, 0, 1]), ([[-1], [0, -1], [0, 0, -1]], [1, 0, 0, -1]),
        ]
        for rows, told in wanted:
            with self.subTest(rows):
                self.assertEqual(together(rows), told)

    def test_against_sums(self):
        rows, total = [], 0
        for row, number in rows_tried():
            rows.append(row)
            total += number
            self.told(together(rows), total)
            self.told(together(rows[::-1]), total)

    def test_many_rows(self):
        self.told(together([[1]] * 5000), 5000)
        self.told(together([[-1, 0, 1]] * 3000 + [[0, 1, 1]] * 1000), 15000)
        self.told(together([[0] * place + [1] for place in range(1500)]), 2 ** 1500 - 1)

    def test_one_row_many_times(self):
        row = [1, 1]
        self.told(together([row, row, row]), 9)
        self.assertEqual(row, [1, 1])

    def test_refuses_what_is_no_list_of_rows(self):
        refuses(self, together, OTHERS + NUMBERS, NoRow)
        refuses(self, together, [row for row in ROWS if row], NoRow)
        refuses(self, together, [([1],), ((1,),), {0: [1]}, iter([[1]]), "+", "", b""], NoRow)

    def test_refuses_a_list_with_one_thing_that_is_no_row(self):
        refuses(self, lambda thing: together([thing]), NO_ROWS, NoRow)
        refuses(self, lambda thing: together([thing, [1]]), NO_ROWS, NoRow)
        refuses(self, lambda thing: together([[1], thing]), NO_ROWS, NoRow)
        refuses(self, lambda thing: together([[1], thing, []]), NO_ROWS, NoRow)
        refuses(self, together, [[[1]] * 2000 + [[1, 0]] + [[1]] * 2000], NoRow)

    def test_the_rows_and_the_list_stay_as_they_were(self):
        rows = [[1, 1, 1], [], [-1, 0, 0, 1], [1, -1] * 300]
        copies, things = [list(row) for row in rows], list(rows)
        together(rows)
        self.assertEqual(rows, copies)
        self.assertTrue(all(row is thing for row, thing in zip(rows, things)))
        rows = [[1], [1, 0], [1, 1]]
        self.assertRaises(NoRow, together, rows)
        self.assertEqual(rows, [[1], [1, 0], [1, 1]])

    def test_what_is_told_is_the_askers_own(self):
        for rows in ([], [[]], [[1]], [[], [1]], [[1, 1], [1]], [[-1, 0, 0, 1]]):
            before = list(together(rows))
            told = together(rows)
            self.assertIsNot(told, rows)
            self.assertFalse(any(told is row for row in rows))
            told.append(1)
            told[0] = -1
            self.assertEqual(together(rows), before)
            kept = together(rows)
            rows.append([1])
            rows[0].append(1)
            self.assertEqual(kept, before)


class Interface(unittest.TestCase):
    def test_each_function_is_defined_in_its_file(self):
        for name in ("negated", "added", "multiplied", "compared", "together"):
            self.assertEqual(getattr(works, name).__module__, "leanfigures.works")

    def test_arguments_have_their_names(self):
        self.assertEqual(negated(row=[0, 1]), [0, -1])
        self.assertEqual(added(one=[1], other=[1]), [0, 1])
        self.assertEqual(multiplied(one=[0, 1], other=[-1]), [0, -1])
        self.assertEqual(compared(one=[0, 1], other=[1]), 1)
        self.assertEqual(together(rows=[[1], [1]]), [0, 1])

    def test_rows_by_hand_are_worked(self):
        for one, first, _, _ in BY_HAND:
            for other, second, _, _ in BY_HAND:
                self.assertEqual(added(one, other), lean(first + second))
                self.assertEqual(multiplied(one, other), lean(first * second))


if __name__ == "__main__":
    unittest.main()
