"""Checks of integers, rows, names, widths and words, which all points share."""

from samewords.errors import BadName, BadNumber, BadValue, BadWidth

LETTERS = "abcdefghijklmnopqrstuvwxyz"
NO_NAMES = ("width", "in", "def", "let", "if", "then", "else", "out", "sum")
MOST_LETTERS = 8
MOST_WIDTH = 64
MOST_SHIFT = 64


def is_integer(thing):
    """Tell whether a thing is an integer; flags are none."""
    return isinstance(thing, int) and not isinstance(thing, bool)


def is_row(thing):
    """Tell whether a thing is a list or a tuple."""
    return isinstance(thing, (list, tuple))


def is_name(thing):
    """Tell whether a thing is a name of 1 to 8 letters that is no word of the texts."""
    if not isinstance(thing, str) or not 1 <= len(thing) <= MOST_LETTERS:
        return False
    return thing not in NO_NAMES and all([letter in LETTERS for letter in thing])


def is_word(thing, width):
    """Tell whether a thing is an integer from 0 to 2 ** width - 1."""
    return is_integer(thing) and 0 <= thing < 1 << width


def is_set_number(thing):
    """Tell whether a thing is an integer that an operation or an instruction may set."""
    return is_word(thing, MOST_WIDTH)


def is_shift(thing):
    """Tell whether a thing is an integer that something may be shifted by."""
    return is_integer(thing) and 0 <= thing <= MOST_SHIFT


def head_word(thing):
    """Return the string that a tuple begins with, None for what is no such tuple."""
    if not isinstance(thing, tuple) or not thing or not isinstance(thing[0], str):
        return None
    return thing[0]


def is_told_input(thing, names, width):
    """Tell whether a thing is a dict that gives a word for just these names."""
    if not isinstance(thing, dict) or len(thing) != len(names):
        return False
    return all([is_word(thing.get(name), width) for name in names])


def check_name(thing):
    """Raise BadName for what is no name."""
    if not is_name(thing):
        raise BadName(thing)


def check_width(thing):
    """Raise BadWidth for what is no width."""
    if not is_integer(thing) or not 1 <= thing <= MOST_WIDTH:
        raise BadWidth(thing)


def check_shift(thing):
    """Raise BadNumber for what no formula or table can be shifted by."""
    if not is_shift(thing):
        raise BadNumber(thing)


def check_values(names, width, values):
    """Raise BadValue with the first of the names for which values gives no word."""
    for name in names:
        if not isinstance(values, dict) or not is_word(values.get(name), width):
            raise BadValue(name)
