"""Formulas for tables, with sums and without."""

from math import factorial

from samewords.checks import LETTERS
from samewords.errors import NoFormula
from samewords.formulas import Name, Number, Sum
from samewords.tables import check_table


def formula_of(table):
    """Return a formula whose table it is."""
    check_table(table)
    # Sums stand in one another at most 11 deep, so that enough letters are left beside 4 inputs.
    indexes = [letter for letter in LETTERS if letter not in table.inputs]
    rows = []
    for pick, word in table.rows():
        factors = [ways_of(name, number, indexes) for name, number in zip(table.inputs, pick) if number > 0]
        rows.append(row_of(word, factors))
    return total_of(rows)


def ways_of(name, number, indexes):
    """Return a formula for C(name, number), of sums within sums."""
    if number == 1:
        return Name(name)
    return Sum(indexes[0], Name(name), ways_of(indexes[0], number - 1, indexes[1:]))


def row_of(word, factors):
    """Return the word times the factors."""
    if not factors:
        return Number(word)
    found = factors[0]
    for factor in factors[1:]:
        found = found * factor
    if word == 1:
        return found
    return Number(word) * found


def total_of(formulas):
    """Return the sum of the formulas, put together in pairs so that it is not deep."""
    if not formulas:
        return Number(0)
    row = list(formulas)
    while len(row) > 1:
        pairs = [row[at] + row[at + 1] for at in range(0, len(row) - 1, 2)]
        row = pairs + row[2 * len(pairs):]
    return row[0]


def is_sumless(table):
    """Tell whether a formula without a sum has the table."""
    check_table(table)
    return all([is_sumless_row(pick, word) for pick, word in table.rows()])


def is_sumless_row(pick, word):
    """Tell whether the word can be divided by the power of two in the factorials of the pick."""
    power, _ = parted(factorials(pick))
    return word & (power - 1) == 0


def factorials(pick):
    """Return the product of the factorials of the numbers of a pick."""
    found = 1
    for number in pick:
        found = found * factorial(number)
    return found


def parted(number):
    """Return the greatest power of two that divides a number above 0, and the odd rest of it."""
    power = 1
    while number & power == 0:
        power = power << 1
    return power, number // power


def odd_inverse(odd, width):
    """Return the word that gives 1 with an odd number as the other factor."""
    mask = (1 << width) - 1
    found = 1
    # Each time the number of last bits that are right is doubled: 1, 2, 4 .. 64.
    for _ in range(6):
        found = found * (2 - odd * found) & mask
    return found


def sumless(table):
    """Return a formula without a sum whose table it is, or raise NoFormula."""
    check_table(table)
    for pick, word in table.rows():
        if not is_sumless_row(pick, word):
            raise NoFormula(pick)
    mask = (1 << table.width) - 1
    rows = []
    for pick, word in table.rows():
        power, odd = parted(factorials(pick))
        factors = [falling(name, number) for name, number in zip(table.inputs, pick) if number > 0]
        rows.append(row_of(word // power * odd_inverse(odd, table.width) & mask, factors))
    return total_of(rows)


def falling(name, number):
    """Return a formula for name * (name - 1) * .. with so many factors."""
    found = Name(name)
    for less in range(1, number):
        found = found * (Name(name) - Number(less))
    return found
