"""What several tests share: rows and things tried, and checks of refusals."""

from decimal import Decimal
from fractions import Fraction
from itertools import product

from leanfigures.errors import NoRow


class AlwaysEqual:
    def __eq__(self, other):
        return True


class NeverCompared:
    def __eq__(self, other):
        raise RuntimeError("compared")


class LikeAnIndex:
    def __index__(self):
        return 1

    def __int__(self):
        return 1


def within_itself():
    rows = []
    rows.append(rows)
    return rows


# Rows, and by hand what each is worth, its weight, and whether it is lean.
BY_HAND = [
    ([], 0, 0, True),
    ([1], 1, 1, True),
    ([-1], -1, 1, True),
    ([0, 1], 2, 1, True),
    ([0, -1], -2, 1, True),
    ([1, 1], 3, 2, False),
    ([-1, 1], 1, 2, False),
    ([1, -1], -1, 2, False),
    ([-1, -1], -3, 2, False),
    ([-1, 0, 1], 3, 2, True),
    ([1, 0, 1], 5, 2, True),
    ([1, 0, -1], -3, 2, True),
    ([1, 1, 1], 7, 3, False),
    ([-1, 0, 0, 1], 7, 2, True),
    ([1, 0, 0, -1], -7, 2, True),
    ([0, 1, 1, 0, 1], 22, 3, False),
    ([0, 1, 0, 1, 1], 26, 3, False),
    ([0, -1, 0, -1, 0, 1], 22, 3, True),
    ([0, 0, 0, 0, 0, 0, 1], 64, 1, True),
    ([1, 1, -1, -1, 1], 7, 5, False),
]

ROWS = [row for row, *_ in BY_HAND]

NUMBERS = [0, 1, -1, 7, 50, 51, 10 ** 5000, -(10 ** 5000)]

# What is neither a row nor a number, nor a list of rows.
OTHERS = [
    None, True, False, 0.0, 1.0, -1.0, float("nan"), float("inf"), 1j, Fraction(1), Decimal(1),
    "", "0", "1", "+00-", b"", b"\x01", bytearray(b"\x01"), (), (0,), (1,), (-1, 0, 0, 1),
    {}, {0: 1}, {1: True}, set(), {1}, frozenset([1]), range(0), range(-1, 2), iter([1]),
    object(), object, int, list, len, AlwaysEqual(), AlwaysEqual, NeverCompared(), LikeAnIndex(),
    [0], [0, 0], [1, 0], [-1, 0, 0], [2], [-2], [1, 2, 1], [2, 1], [-2, 1], [10 ** 5000, 1],
    [True], [False, 1], [1, True], [None], [None, 1], ["1"], ["+"], ["", 1], [b"\x01"], [1.0],
    [0.0, 1], [-1.0, 1], [1j, 1], [Fraction(1)], [[], 1], [[1], 1], [(1,)], [{}, 1],
    [AlwaysEqual()], [AlwaysEqual(), 1], [NeverCompared(), 1], [LikeAnIndex()], [object(), 1],
    within_itself(),
]

# What is neither a row nor a number.
NEITHER = OTHERS + [[[]], [[1]]]

# The same without the texts, some of which show rows or are deeds.
TEXTLESS = [thing for thing in NEITHER if not isinstance(thing, str)] + ROWS + NUMBERS


def rows_up_to(many):
    """All rows of at most so many figures."""
    rows = [[]]
    for length in range(1, many + 1):
        rows.extend(list(row) for row in product((-1, 0, 1), repeat=length) if row[-1] != 0)
    return rows


def summed(row):
    """What a row is worth, straight from the document's words."""
    total, place = 0, 1
    for figure in row:
        total += figure * place
        place += place
    return total


def numbers_tried():
    """Numbers of both signs: small ones, ones near powers of two and near a third of one."""
    numbers = list(range(-600, 601))
    for exponent in (10, 31, 32, 62, 63, 64, 65, 100, 127, 128, 300, 901, 1000, 4095, 5000):
        power = 2 ** exponent
        for middle in (power, power // 3, power * 2 // 3, power + power // 3):
            for step in range(-3, 4):
                numbers.extend([middle + step, -middle + step])
    numbers.extend([3 ** 700, -(3 ** 700), 7 ** 1500, -(7 ** 1500), 10 ** 4999, 10 ** 5000])
    return numbers


def refuses(case, function, things, error):
    """Check that a function refuses each thing, alone, with just this error."""
    for at, thing in enumerate(things):
        with case.subTest(at=at):
            with case.assertRaises(error) as caught:
                function(thing)
            case.assertIs(type(caught.exception), error)


def leaves_as_it_was(case, function):
    """Check that a function of a row changes neither a row nor what is none."""
    for row, *_ in BY_HAND + [([1, 0, -1] * 500,)]:
        before = list(row)
        function(row)
        case.assertEqual(row, before)
    for thing in ([0], [1, 0, 0], [2, 1], [1, None, 1]):
        before = list(thing)
        with case.assertRaises(NoRow):
            function(thing)
        case.assertEqual(thing, before)
