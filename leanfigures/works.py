"""Rows worked to lean rows, and rows compared."""

from leanfigures.errors import NoRow
from leanfigures.figures import lean, worth


def negated(row):
    """Tell the lean row that is worth as much below nought as a row above it."""
    return lean(-worth(row))


def added(one, other):
    """Tell the lean row that is worth what two rows are worth together."""
    return lean(worth(one) + worth(other))


def multiplied(one, other):
    """Tell the lean row that is worth what two rows are worth, multiplied."""
    return lean(worth(one) * worth(other))


def compared(one, other):
    """Tell 1 if the first of two rows is worth more, -1 if the other is, else 0."""
    first, second = worth(one), worth(other)
    if first > second:
        return 1
    if first < second:
        return -1
    return 0


def together(rows):
    """Tell the lean row that is worth what all rows of a list are worth together."""
    if not isinstance(rows, list):
        raise NoRow("a list of rows is needed")
    return lean(sum([worth(row) for row in rows]))
