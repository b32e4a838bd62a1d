"""Papers: what shows that formulas are alike or apart, and its judges."""

from samewords.checks import is_integer, is_told_input
from samewords.errors import Unlike
from samewords.meaning import MOST_ROWS, greater_degrees, text_degrees
from samewords.picks import rows_in_box
from samewords.tables import box_sizes, table, words_of_box
from samewords.verdicts import alike, apart, check_pair, difference, names_of_pair

MOST_END = 40


def box_paper(one, other, width):
    """Return the box paper with the least ends for two formulas, or raise Unlike."""
    values = apart(one, other, width)
    if values is not None:
        raise Unlike(values)
    ends = least_ends(one, other, width)
    return ends, words_of_box(table(one, width), names_of_pair(one, other), box_sizes(width, ends))


def is_box_paper(one, other, width, thing):
    """Tell whether a thing is a box paper for two formulas."""
    if not alike(one, other, width) or not isinstance(thing, tuple) or len(thing) != 2:
        return False
    ends, words = thing
    if not are_box_ends(ends, least_ends(one, other, width), width):
        return False
    names = names_of_pair(one, other)
    return are_same_words(words, words_of_box(table(one, width), names, box_sizes(width, ends)))


def least_ends(one, other, width):
    """Return the tuple of the least ends, by ascending names, that a box paper may have."""
    found = greater_degrees(text_degrees(one), text_degrees(other))
    return tuple([min(found[name], (1 << width) - 1) for name in names_of_pair(one, other)])


def are_box_ends(thing, least, width):
    """Tell whether a thing is a tuple of ends, none below the least ones, of a box that is not too large."""
    if not isinstance(thing, tuple) or len(thing) != len(least):
        return False
    if not all([is_integer(end) and at_least <= end <= MOST_END for end, at_least in zip(thing, least)]):
        return False
    return rows_in_box(box_sizes(width, thing)) <= MOST_ROWS


def are_same_words(thing, words):
    """Tell whether a thing is a dict with the rows and the words, or rows of words, of a dict, no flag among them."""
    if not isinstance(thing, dict) or len(thing) != len(words):
        return False
    for row, word in thing.items():
        # A flag is equal to a number, so that it would be found as a key and as a word.
        if not is_integer_tuple(row) or not (is_integer(word) or is_integer_tuple(word)):
            return False
        if word != words.get(row):
            return False
    return True


def is_integer_tuple(thing):
    """Tell whether a thing is a tuple of integers."""
    return isinstance(thing, tuple) and all([is_integer(number) for number in thing])


def is_apart(one, other, width, thing):
    """Tell whether a thing is an input of just the inputs of two formulas at which they differ."""
    check_pair(one, other, width)
    if not is_told_input(thing, names_of_pair(one, other), width):
        return False
    return difference(one, other, width).word_at(thing) != 0
