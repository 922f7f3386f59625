"""Deeds: texts of doublings and steps from 0 on, what they cost, and the least ones."""

from leanfigures.errors import NoCost, NoDeeds
from leanfigures.figures import is_whole, lean_parts, refuse_no_number

MOST_COST = 50


def led(deeds):
    """Tell the number to which deeds lead."""
    refuse_no_deeds(deeds)
    # Between two doublings only the balance of the steps counts, not their order.
    return doubled_between([part.count("u") - part.count("w") for part in deeds.split("d")])


def doubled_between(balances):
    """Tell the number that balances of steps lead to, with a doubling between each two."""
    # Neighbours are joined two by two: doubling one number on and on is slow for long deeds.
    doublings = 1
    while len(balances) > 1:
        if len(balances) % 2 == 1:
            balances = [0] + balances
        balances = [(one << doublings) + other for one, other in zip(balances[::2], balances[1::2])]
        doublings = doublings * 2
    return balances[0]


def cost_of(deeds, double, step):
    """Tell what deeds cost, where a doubling costs double and a step costs step."""
    refuse_no_deeds(deeds)
    refuse_no_cost(double)
    refuse_no_cost(step)
    doublings = deeds.count("d")
    return doublings * double + (len(deeds) - doublings) * step


def least(number, double, step):
    """Tell the cost of the least deeds for a number, and these deeds."""
    refuse_no_number(number)
    refuse_no_cost(double)
    refuse_no_cost(step)
    up, down = ("u", "w") if number > 0 else ("w", "u")
    first, row = begun(abs(number), (double - 1) // step)
    deeds = up * first + row.replace("0", "d").replace("1", "d" + up).replace("2", "d" + down)
    return len(row) * double + (len(deeds) - len(row)) * step, deeds


# Why least finds the least deeds. Between the doublings and behind the last one, two steps
# are dearer than one step ahead of the doubling before them. So the least deeds for a size
# begin with some steps, and behind each doubling there is one step or none: a row.
#
# To go to 2 * part, or one more, by steps alone is cheaper than by part, a doubling and the
# odd step just if part * step is below double. The greatest such part is half. So up to
# most = 2 * half + 1 steps alone cost least; to any size beyond, deeds that end with a
# doubling, or a doubling and a step, cost no more than steps alone.
#
# Ahead of the last k doublings stands size >> k or one more. While size >> k is above most
# one doubling more is never dearer. Then stands first, at most most, or first + 1, and steps
# alone lead there at the least cost, but for most + 1: to that lead half + 1 steps and a
# doubling, for more than most steps cost and for no more than most + 1 steps cost.
#
# With first, the row is worth what is left of the size; with first + 1, 1 << doublings less.
# If the lean row of what is left has a figure at the very place of first, this is the step
# to first + 1; no row has less weight, so first is not cheaper. If it has none there, turn a
# 1 at the place below to -1 or, if there is none, put -1 at the place of first: this is again
# a lean row, worth 1 << doublings less. Its weight is no less, and first + 1 is dearer than
# first: it is not cheaper.


def begun(size, half):
    """Tell how many steps the least deeds for a size begin with, and the row of the others."""
    most = 2 * half + 1
    if size <= most:
        return size, ""
    doublings = size.bit_length() - most.bit_length()
    if size >> doublings > most:
        doublings = doublings + 1
    first = size >> doublings
    row = digits_of(size - (first << doublings), doublings)
    if len(row) > doublings:
        first, row = first + 1, row[1:]
    if first > most:
        first, row = half + 1, "0" + row
    return first, row


def digits_of(number, many):
    """Tell the lean row of a number as a text: its last figure first, 2 for -1, filled up by 0."""
    ups, downs = lean_parts(number)
    # Read at sixteens, the two can be added without a carry: all places are told at once.
    ups_apart = int(f"{ups:b}", 16)
    downs_apart = int(f"{downs:b}", 16)
    return f"{ups_apart + 2 * downs_apart:x}".zfill(many)


def refuse_no_deeds(thing):
    """Raise NoDeeds if a thing is no text of the signs d, u and w."""
    if not isinstance(thing, str) or not all([sign in "duw" for sign in thing]):
        raise NoDeeds("a text of the signs d, u and w is needed")


def refuse_no_cost(thing):
    """Raise NoCost if a thing is no whole number from 1 to 50."""
    if not is_whole(thing) or not 1 <= thing <= MOST_COST:
        raise NoCost("a whole number from 1 to 50 is needed")
