"""Rows of the figures -1, 0 and 1, what they are worth, and lean rows."""

from leanfigures.errors import NoNumber, NoRow


def is_whole(thing):
    """Tell whether a thing is a whole number."""
    # Python counts True and False among its int; here they are no numbers.
    return isinstance(thing, int) and not isinstance(thing, bool)


def is_figure(thing):
    """Tell whether a thing is one of -1, 0 and 1."""
    return is_whole(thing) and -1 <= thing <= 1


def is_row(thing):
    """Tell whether a thing is a row: a list of figures, its last one not 0."""
    if not isinstance(thing, list):
        return False
    if not all([is_figure(item) for item in thing]):
        return False
    return len(thing) == 0 or thing[-1] != 0


def refuse_no_row(thing):
    """Raise NoRow if a thing is no row."""
    # The message does not show the thing: not all of them can be written out.
    if not is_row(thing):
        raise NoRow("a row is a list of -1, 0 and 1, its last one not 0")


def refuse_no_number(thing):
    """Raise NoNumber if a thing is no whole number."""
    if not is_whole(thing):
        raise NoNumber("a whole number is needed")


def worth(row):
    """Tell the number that a row is worth."""
    refuse_no_row(row)
    return marked(row, 1) - marked(row, -1)


def marked(row, figure):
    """Tell the number that has a binary 1 just where a row has this figure."""
    # All places are read at once: adding them up one by one is slow for long rows.
    marks = ["1" if item == figure else "0" for item in reversed(row)]
    # The leading 0 is there for the empty row, which has no marks to read.
    return int("0" + "".join(marks), 2)


def weight(row):
    """Tell how many figures of a row are other than 0."""
    refuse_no_row(row)
    return len(row) - row.count(0)


def is_lean(row):
    """Tell whether of each two neighbours of a row one at least is 0."""
    refuse_no_row(row)
    return all([one == 0 or other == 0 for one, other in zip(row, row[1:])])


def lean(number):
    """Tell the one lean row that is worth a number."""
    refuse_no_number(number)
    if number == 0:
        return []
    ups, downs = lean_parts(number)
    many = max(ups, downs).bit_length()
    return [int(up) - int(down) for up, down in zip(places(ups, many), places(downs, many))]


def lean_parts(number):
    """Tell the numbers that have a binary 1 just where the lean row of a number has 1, and -1."""
    # The number is more - half, taken place by place; equal places cancel out.
    # Place k of more is n[k] ^ n[k + 1] ^ carry, and place k of half is n[k + 1]:
    # they differ just where n[k] is not the carry. There the next carry is n[k + 1],
    # so at the next place they do not differ: no two neighbours are left.
    half = number >> 1
    more = number + half
    apart = more ^ half
    return more & apart, half & apart


def places(number, many):
    """Tell this many binary places of a number as a text, the lowest first."""
    text = f"{number:b}"
    return text.zfill(many)[::-1]
