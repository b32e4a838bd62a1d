"""Whether formulas give the same word for all inputs, and inputs that show that they do not."""

from samewords.checks import check_name, check_width, is_told_input
from samewords.errors import TooMany
from samewords.formulas import check_callless
from samewords.meaning import is_small_pair
from samewords.tables import table


def alike(one, other, width):
    """Tell whether two formulas give the same word for all inputs of the width."""
    check_pair(one, other, width)
    return not difference(one, other, width).rows()


def apart(one, other, width):
    """Return the least input at which two formulas give unlike words, or None."""
    check_pair(one, other, width)
    found = difference(one, other, width)
    if not found.rows():
        return None
    pick, _ = found.rows()[0]
    return input_of_pick(found, pick, names_of_pair(one, other))


def same_bits(one, other, width):
    """Return how many of the last bits of two formulas agree for all inputs."""
    check_pair(one, other, width)
    words = [word for _, word in difference(one, other, width).rows()]
    return min([twos(word) for word in words], default=width)


def hangs(formula, name, width):
    """Tell whether the word of a formula hangs on the input of this name."""
    return name in table_on_name(formula, name, width).inputs


def swing(formula, name, width):
    """Return two inputs, unlike in the number of name alone, with unlike words, or None."""
    found = table_on_name(formula, name, width)
    if name not in found.inputs:
        return None
    at = found.inputs.index(name)
    # The first pick with a number for the name: no other such pick counts at the input that it is.
    picks = [pick for pick, _ in found.rows() if pick[at] > 0]
    values = input_of_pick(found, picks[0], formula.input_names())
    return {other: values[other] if other != name else 0 for other in values}, values


def is_swing(formula, name, width, thing):
    """Tell whether a thing is such a tuple as swing returns."""
    found = table_on_name(formula, name, width)
    names = formula.input_names()
    if name not in names or not isinstance(thing, tuple) or len(thing) != 2:
        return False
    if not all([is_told_input(values, names, width) for values in thing]):
        return False
    if any([thing[0][other] != thing[1][other] for other in names if other != name]):
        return False
    return found.word_at(thing[0]) != found.word_at(thing[1])


def constant(formula, width):
    """Return the word that a formula gives for all inputs, or None if there are unlike ones."""
    found = table(formula, width)
    if found.inputs:
        return None
    return found.word_at({})


def check_pair(one, other, width):
    """Raise the errors of all functions that compare two formulas."""
    check_callless(one)
    check_callless(other)
    check_width(width)
    if not is_small_pair(one, other):
        raise TooMany()


def table_on_name(formula, name, width):
    """Return the table of a formula, with the errors of the functions that ask for one input."""
    check_callless(formula)
    check_name(name)
    return table(formula, width)


def names_of_pair(one, other):
    """Return the ascending list of the inputs of both formulas."""
    return sorted(set(one.input_names() + other.input_names()))


def difference(one, other, width):
    """Return the table of the difference of two formulas that check_pair lets pass."""
    return table(one, width) - table(other, width)


def input_of_pick(found, pick, names):
    """Return the input that has the numbers of a pick of a table, and 0 for all other names."""
    numbers = dict(zip(found.inputs, pick))
    return {name: numbers.get(name, 0) for name in names}


def twos(word):
    """Return how often 2 divides a word that is not 0."""
    return (word & -word).bit_length() - 1
