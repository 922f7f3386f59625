import unittest
from heapq import heappop, heappush
from itertools import product
from time import process_time

from helper import NEITHER, NUMBERS, ROWS, TEXTLESS, numbers_tried, refuses
from leanfigures import deeds
from leanfigures.deeds import cost_of, least, led
from leanfigures.errors import NoCost, NoDeeds, NoNumber
from leanfigures.figures import lean

# Deeds, and by hand the number they lead to, how many doublings and how many steps they are.
BY_HAND = [
    ("", 0, 0, 0),
    ("u", 1, 0, 1),
    ("w", -1, 0, 1),
    ("d", 0, 1, 0),
    ("ddd", 0, 3, 0),
    ("ud", 2, 1, 1),
    ("du", 1, 1, 1),
    ("wd", -2, 1, 1),
    ("dw", -1, 1, 1),
    ("uw", 0, 0, 2),
    ("wu", 0, 0, 2),
    ("uuu", 3, 0, 3),
    ("udd", 4, 2, 1),
    ("uddd", 8, 3, 1),
    ("udddw", 7, 3, 2),
    ("uudduu", 10, 2, 4),
    ("udwdu", 3, 2, 3),
    ("wdudw", -3, 2, 3),
    ("duwduuud", 6, 3, 5),
    ("wwwwwd", -10, 1, 5),
    ("dduddwdduu", 14, 6, 4),
    ("ududud", 14, 3, 3),
]

NO_DEEDS = [
    "D", "U", "W", "dU", "x", "ux", "xu", "uxd", "udw1", "+", "-", "0", "1", "+00-", "v", "m", "c",
    " ", " u", "u ", "u d", "\n", "u\n", "\nu", "u\nd", "\t", "u\td", "d\r\n", "u,d", "[]", "None",
    "u" * 3000 + "x", "x" + "d" * 3000, "d" * 1500 + " " + "d" * 1500, "ud" * 2000 + "\n",
]

# What is no whole number from 1 to 50.
NO_COSTS = NEITHER + ROWS + [0, 51, -1, -50, 52, 100, 10 ** 5000, -(10 ** 5000), 2 ** 64 + 1]

PAIRS = [
    (1, 1), (1, 2), (2, 1), (3, 2), (2, 3), (1, 50), (50, 1), (50, 50), (49, 50), (50, 49), (49, 1),
    (33, 1), (32, 1), (31, 1), (17, 2), (16, 1), (50, 3), (50, 7), (7, 50), (10, 5), (11, 5), (9, 5),
    (4, 1), (5, 1), (8, 1), (25, 1), (26, 1), (3, 49),
]

# The pairs of costs for numbers of eleven hundred places, and such numbers.
LONG_PAIRS = [(1, 1), (50, 1), (1, 50), (50, 50), (7, 3)]
LONG_NUMBERS = [
    sign * (middle + away)
    for middle in (2 ** 1100 // 3, 2 ** 1100) for away in range(-12, 13) for sign in (1, -1)
]


def done(signs):
    """The number to which deeds lead, straight from the document's words."""
    number = 0
    for sign in signs:
        number = {"d": 2 * number, "u": number + 1, "w": number - 1}[sign]
    return number


def searched(most, double, step):
    """The least cost of each number from -most to most, found by going on from 0."""
    # No least deeds pass numbers much farther off: one doubling of what lies beyond is too far.
    bound = 2 * most + 100
    costs, queue = {0: 0}, [(0, 0)]
    while queue:
        cost, number = heappop(queue)
        if cost > costs[number]:
            continue
        for other, more in ((2 * number, double), (number + 1, step), (number - 1, step)):
            if abs(other) <= bound and cost + more < costs.get(other, cost + more + 1):
                costs[other] = cost + more
                heappush(queue, (cost + more, other))
    return costs


def worked_out(number, double, step):
    """The least cost of a number of any size, from the costs of what it begins with."""
    # Behind the last doubling there is one step or none, or there is no doubling.
    size = abs(number)
    start = 0
    cost, next_cost = 0, step
    for place in reversed(range(size.bit_length())):
        even = min(2 * start * step, double + cost)
        odd = min((2 * start + 1) * step, double + step + min(cost, next_cost))
        last = min((2 * start + 2) * step, double + next_cost)
        start = size >> place
        cost, next_cost = (odd, last) if start % 2 else (even, odd)
    return cost


def shortest_times(functions, many):
    """The shortest time of so many runs of each function, the functions taking turns."""
    times = [[] for _ in functions]
    for _ in range(many):
        for at, function in enumerate(functions):
            before = process_time()
            function()
            times[at].append(process_time() - before)
    return [min(told) for told in times]


class Led(unittest.TestCase):
    def test_by_hand(self):
        for text, number, _, _ in BY_HAND:
            with self.subTest(text):
                self.assertEqual(led(text), number)
                self.assertIs(type(led(text)), int)

    def test_all_short_deeds(self):
        for length in range(8):
            for signs in product("duw", repeat=length):
                self.assertEqual(led("".join(signs)), done(signs), signs)

    def test_long_deeds(self):
        self.assertEqual(led("u" + "d" * 3000), 2 ** 3000)
        self.assertEqual(led("w" + "d" * 3000 + "u"), 1 - 2 ** 3000)
        self.assertEqual(led("d" * 5000), 0)
        self.assertEqual(led("u" * 5000), 5000)
        self.assertEqual(led("w" * 5000 + "d"), -10000)
        self.assertEqual(led("du" * 2000), 2 ** 2000 - 1)
        self.assertEqual(led("uw" * 3000), 0)
        for text in ("dduwudwww", "uuudwd", "wdwduddd", "uwd"):
            for many in (99, 500, 1001):
                self.assertTrue(led(text * many) == done(text * many))

    def test_very_long_deeds(self):
        self.assertTrue(led("u" + "d" * 300000) == 1 << 300000)
        self.assertTrue(led("du" * 300000) == (1 << 300000) - 1)

    def test_refuses_texts_that_are_no_deeds(self):
        refuses(self, led, NO_DEEDS, NoDeeds)

    def test_refuses_each_other_sign_in_each_place(self):
        for number in range(32, 127):
            sign = chr(number)
            if sign not in "duw%":
                refuses(self, led, [sign, sign + "ud", "u" + sign + "d", "ud" + sign], NoDeeds)

    def test_refuses_what_is_no_text(self):
        things = TEXTLESS + [b"u", b"", ["u"], ["d", "u"], ("u",), {"u": 1}, {"d", "u"}]
        refuses(self, led, things, NoDeeds)


class CostOf(unittest.TestCase):
    def test_by_hand(self):
        self.assertEqual(cost_of("", 50, 50), 0)
        self.assertEqual(cost_of("udddw", 3, 5), 19)
        self.assertEqual(cost_of("uudduu", 1, 50), 202)
        self.assertEqual(cost_of("d", 50, 1), 50)
        self.assertEqual(cost_of("u", 50, 1), 1)
        self.assertEqual(cost_of("w", 50, 1), 1)
        self.assertEqual(cost_of("uw", 7, 4), 8)

    def test_all_pairs_of_costs(self):
        for double in range(1, 51):
            for step in range(1, 51):
                for text, _, doublings, steps in BY_HAND:
                    wanted = doublings * double + steps * step
                    self.assertEqual(cost_of(text, double, step), wanted)
        self.assertIs(type(cost_of("ud", 3, 4)), int)

    def test_long_deeds(self):
        self.assertEqual(cost_of("u" + "d" * 3000, 2, 50), 6050)
        self.assertEqual(cost_of("duw" * 2000, 50, 49), 296000)
        self.assertEqual(cost_of("w" * 5000, 50, 1), 5000)

    def test_refuses_what_are_no_deeds(self):
        refuses(self, lambda thing: cost_of(thing, 1, 1), NO_DEEDS + TEXTLESS, NoDeeds)

    def test_refuses_what_is_no_cost(self):
        for text in ("", "d", "u", "uddw"):
            refuses(self, lambda thing: cost_of(text, thing, 1), NO_COSTS, NoCost)
            refuses(self, lambda thing: cost_of(text, 1, thing), NO_COSTS, NoCost)
            refuses(self, lambda thing: cost_of(text, thing, thing), NO_COSTS, NoCost)

    def test_refuses_no_deeds_ahead_of_no_costs(self):
        for thing in NO_DEEDS + TEXTLESS:
            for double, step in ((0, 1), (1, 51), (None, None), (True, "1"), (thing, thing)):
                self.assertRaises(NoDeeds, cost_of, thing, double, step)


class Least(unittest.TestCase):
    def check(self, number, double, step, cost):
        told = least(number, double, step)
        self.assertIs(type(told), tuple)
        self.assertEqual(len(told), 2)
        self.assertIs(type(told[0]), int)
        self.assertIs(type(told[1]), str)
        self.assertTrue(set(told[1]) <= set("duw"))
        self.assertTrue(done(told[1]) == number)
        self.assertTrue(led(told[1]) == number)
        self.assertEqual(told[0], cost)
        self.assertEqual(cost_of(told[1], double, step), cost)

    def test_by_hand(self):
        wanted = [
            (1, 1, 1, (1, "u")), (-1, 50, 50, (50, "w")), (2, 50, 1, (2, "uu")),
            (-2, 50, 1, (2, "ww")), (2, 1, 50, (51, "ud")), (8, 1, 50, (53, "uddd")),
            (7, 1, 50, (103, "udddw")), (-7, 1, 50, (103, "wdddu")), (3, 50, 1, (3, "uuu")),
            (64, 1, 2, (8, "udddddd")), (90, 50, 1, (90, "u" * 90)),
        ]
        for number, double, step, told in wanted:
            with self.subTest(f"{number} {double} {step}"):
                self.assertEqual(least(number, double, step), told)

    def test_nought_needs_no_deeds(self):
        for double in range(1, 51):
            for step in range(1, 51):
                self.assertEqual(least(0, double, step), (0, ""))

    def test_small_numbers_with_all_pairs_of_costs(self):
        for double in range(1, 51):
            for step in range(1, 51):
                for number in list(range(-9, 10)) + [23, -27, 43, -85, 99, -101, 171]:
                    self.check(number, double, step, worked_out(number, double, step))

    def test_against_a_search(self):
        for double, step in PAIRS:
            costs = searched(700, double, step)
            for number in range(-700, 701):
                self.check(number, double, step, costs[number])

    def test_no_short_deeds_cost_less(self):
        for length in range(8):
            for signs in product("duw", repeat=length):
                number = done(signs)
                for double, step in ((1, 1), (1, 50), (50, 1), (3, 2), (4, 1)):
                    cost = cost_of("".join(signs), double, step)
                    self.assertLessEqual(least(number, double, step)[0], cost)

    def test_long_numbers(self):
        for double, step in ((1, 1), (1, 50), (50, 1), (33, 1), (5, 2)):
            for number in numbers_tried()[1201::3]:
                self.check(number, double, step, worked_out(number, double, step))

    def test_near_long_powers_of_two_by_hand(self):
        for many in (300, 1000, 2500):
            power = "u" + "d" * many
            self.assertEqual(least(2 ** many, 1, 50), (many + 50, power))
            self.assertEqual(least(2 ** many - 1, 1, 50), (many + 100, power + "w"))
            self.assertEqual(least(2 ** many + 1, 1, 50), (many + 100, power + "u"))
            self.assertEqual(least(-(2 ** many) - 1, 1, 50)[0], many + 100)
            self.assertEqual(least(1 - 2 ** many, 1, 50)[1], "w" + "d" * many + "u")

    def test_near_thirds_of_long_powers_of_two_by_hand(self):
        for many in (300, 1000):
            third = (4 ** many - 1) // 3
            told = "u" + "ddu" * (many - 1)
            self.assertEqual(least(third, 1, 50), (2 * (many - 1) + 50 * many, told))
            self.assertEqual(least(-third, 1, 50)[1], told.replace("u", "w"))

    def test_very_long_numbers(self):
        for number in (2 ** 100000 // 3, -(2 ** 100000) // 7, 3 ** 60000):
            cost, text = least(number, 50, 1)
            self.assertTrue(led(text) == number)
            self.assertEqual(cost, cost_of(text, 50, 1))

    def test_asked_again_the_same(self):
        asked = [(number, *pair) for number in (3, 5, -6, 11, 95, -99, 3 ** 300) for pair in PAIRS]
        told = [least(*words) for words in asked]
        for words, before in list(zip(asked, told))[::-1]:
            self.assertEqual(least(*words), before)

    def test_refuses_what_is_no_number(self):
        refuses(self, lambda thing: least(thing, 1, 1), NEITHER + ROWS, NoNumber)

    def test_refuses_what_is_no_cost(self):
        for number in (0, 1, -7, 2 ** 200):
            refuses(self, lambda thing: least(number, thing, 1), NO_COSTS, NoCost)
            refuses(self, lambda thing: least(number, 1, thing), NO_COSTS, NoCost)
            refuses(self, lambda thing: least(number, thing, thing), NO_COSTS, NoCost)

    def test_refuses_no_numbers_ahead_of_no_costs(self):
        for thing in NEITHER + ROWS:
            for double, step in ((0, 1), (1, 51), (None, None), (True, "1"), (thing, thing)):
                self.assertRaises(NoNumber, least, thing, double, step)

    def test_the_bounds_of_costs(self):
        self.assertEqual(least(5, 1, 1)[0], 4)
        self.assertEqual(least(5, 50, 50)[0], 200)
        self.assertEqual(cost_of("ud", 50, 50), 100)
        self.assertEqual(cost_of("ud", 1, 1), 2)


class LeastOfElevenHundredPlaces(unittest.TestCase):
    def test_they_lead_to_the_number_at_the_told_cost(self):
        for pair in LONG_PAIRS:
            for number in LONG_NUMBERS:
                cost, text = least(number, *pair)
                self.assertTrue(led(text) == number)
                self.assertEqual(cost_of(text, *pair), cost)

    def test_a_step_from_a_neighbour_costs_no_less(self):
        for double, step in LONG_PAIRS:
            for number in LONG_NUMBERS:
                cost = least(number, double, step)[0]
                self.assertLessEqual(cost, least(number + 1, double, step)[0] + step)
                self.assertLessEqual(cost, least(number - 1, double, step)[0] + step)

    def test_a_doubling_of_the_half_costs_no_less(self):
        for double, step in LONG_PAIRS:
            for number in LONG_NUMBERS:
                if number % 2 == 0:
                    half = least(number // 2, double, step)[0]
                    self.assertLessEqual(least(number, double, step)[0], half + double)

    def test_asked_again_the_same(self):
        asked = [(number, *pair) for pair in LONG_PAIRS for number in LONG_NUMBERS]
        told = [least(*words) for words in asked]
        self.assertTrue(told == [least(*words) for words in asked])
        self.assertTrue(told[::-1] == [least(*words) for words in asked[::-1]])

    def test_they_cost_what_is_worked_out_from_the_first_places_on(self):
        for pair in LONG_PAIRS:
            for number in LONG_NUMBERS:
                self.assertEqual(least(number, *pair)[0], worked_out(number, *pair))


class LeastInTime(unittest.TestCase):
    def check(self, numbers, pairs, many):
        # Beside lean of the same numbers, as machines differ. It took five times as long and more.
        told, rows = shortest_times([
            lambda: [least(number, *pair) for pair in pairs for number in numbers],
            lambda: [lean(number) for _ in pairs for number in numbers],
        ], many)
        self.assertLess(told, 2 * rows)

    def test_numbers_of_very_many_places(self):
        self.check([2 ** 110000 // 3, -(2 ** 110000) + 1], [(50, 1)], 3)

    def test_numbers_of_eleven_hundred_places(self):
        self.check(LONG_NUMBERS, LONG_PAIRS, 5)

    def test_small_numbers(self):
        self.check(list(range(-500, 501)), LONG_PAIRS, 9)


class Interface(unittest.TestCase):
    def test_each_function_is_defined_in_its_file(self):
        for name in ("led", "cost_of", "least"):
            self.assertEqual(getattr(deeds, name).__module__, "leanfigures.deeds")

    def test_arguments_have_their_names(self):
        self.assertEqual(led(deeds="ud"), 2)
        self.assertEqual(cost_of(deeds="ud", double=3, step=4), 7)
        self.assertEqual(least(number=2, double=1, step=50), (51, "ud"))

    def test_numbers_are_no_deeds(self):
        refuses(self, led, NUMBERS, NoDeeds)


if __name__ == "__main__":
    unittest.main()
