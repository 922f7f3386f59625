"""Deeds: texts of doublings and steps from 0 on, what they cost, and the least ones."""

from leanfigures.errors import NoCost, NoDeeds
from leanfigures.figures import is_whole, lean, refuse_no_number, weight

MOST_COST = 50


def led(deeds):
    """Tell the number to which deeds lead."""
    refuse_no_deeds(deeds)
    # Between two doublings only the balance of the steps counts, not their order.
    return doubled_between([part.count("u") - part.count("w") for part in deeds.split("d")])


def doubled_between(balances):
    """Tell the number that balances of steps lead to, with a doubling between each two."""
    # Neighbours are joined two by two: doubling one number on and on is slow for long deeds.
    doublings = 1
    while len(balances) > 1:
        if len(balances) % 2 == 1:
            balances = [0] + balances
        balances = [(one << doublings) + other for one, other in zip(balances[::2], balances[1::2])]
        doublings = doublings * 2
    return balances[0]


def cost_of(deeds, double, step):
    """Tell what deeds cost, where a doubling costs double and a step costs step."""
    refuse_no_deeds(deeds)
    refuse_no_cost(double)
    refuse_no_cost(step)
    doublings = deeds.count("d")
    return doublings * double + (len(deeds) - doublings) * step


def least(number, double, step):
    """Tell the cost of the least deeds for a number, and these deeds."""
    refuse_no_number(number)
    refuse_no_cost(double)
    refuse_no_cost(step)
    size = abs(number)
    tried = []
    # With more doublings than the size has places the first one would double 0, or it would
    # double 1 to step back to 1: for nothing.
    for doublings in range(fewest_doublings(size, double, step), size.bit_length() + 1):
        steps = (size >> doublings) + weight(lean(rest(size, doublings)))
        tried.append((doublings * double + steps * step, doublings))
    cost, chosen = min(tried)
    return cost, written(number, chosen)


# Why least finds the least deeds. Between the doublings and behind the last one, two steps
# are dearer than one step ahead of the doubling before them. So the least deeds for a size
# begin with some steps, and behind each doubling there is one step or none: a row. With so
# many doublings these first steps are size >> doublings, or one more. To begin with the
# fewer steps is never dearer: one figure more in the row makes up for the step. And of the
# rows that are worth what is left the lean one has the least weight. If it has a figure at
# the very place of the first steps, this is the one step more.


def fewest_doublings(size, double, step):
    """Tell how many doublings are the fewest that need be tried for a size."""
    # To begin with 2 * half steps, or one more, is cheaper than with half steps, a doubling
    # and the odd step only if half * step is below double: this is the greatest such half.
    half = (double - 1) // step
    return max(0, size.bit_length() - 1 - half.bit_length())


def rest(size, doublings):
    """Tell what the first steps, after so many doublings, leave of a size."""
    return size - (size >> doublings << doublings)


def written(number, doublings):
    """Tell the deeds with so many doublings, and then the fewest steps, for a number."""
    up, down = ("u", "w") if number > 0 else ("w", "u")
    size = abs(number)
    row = lean(rest(size, doublings))
    first = size >> doublings
    if len(row) > doublings:
        first = first + 1
    row = row[:doublings] + [0] * (doublings - len(row))
    signs = {0: "d", 1: "d" + up, -1: "d" + down}
    return up * first + "".join([signs[figure] for figure in reversed(row)])


def refuse_no_deeds(thing):
    """Raise NoDeeds if a thing is no text of the signs d, u and w."""
    if not isinstance(thing, str) or not all([sign in "duw" for sign in thing]):
        raise NoDeeds("a text of the signs d, u and w is needed")


def refuse_no_cost(thing):
    """Raise NoCost if a thing is no whole number from 1 to 50."""
    if not is_whole(thing) or not 1 <= thing <= MOST_COST:
        raise NoCost("a whole number from 1 to 50 is needed")
