"""Rows shown as texts, and texts read as rows."""

from leanfigures.errors import NoText
from leanfigures.figures import refuse_no_row

SIGNS = {1: "+", 0: "0", -1: "-"}
FIGURES = {"+": 1, "0": 0, "-": -1}
EMPTY = "0"


def shown(row):
    """Tell the text that shows a row, its last figure first."""
    refuse_no_row(row)
    if len(row) == 0:
        return EMPTY
    return "".join([SIGNS[figure] for figure in reversed(row)])


def read(text):
    """Tell the row that is shown by a text."""
    if not shows_row(text):
        raise NoText("a text of +, 0 and - is needed, its first sign not 0, or 0 alone")
    if text == EMPTY:
        return []
    return [FIGURES[sign] for sign in reversed(text)]


def shows_row(thing):
    """Tell whether a thing is a text that shows a row."""
    if not isinstance(thing, str):
        return False
    if thing == EMPTY:
        return True
    # The first sign shows the last figure of a row, and that one is not 0.
    if thing == "" or thing.startswith("0"):
        return False
    return all([sign in FIGURES for sign in thing])
