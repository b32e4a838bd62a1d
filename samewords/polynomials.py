"""The difference of two formulas without a sum, as a polynomial with whole numbers.

Only how often 2 divides these numbers is asked, and never beyond the width, so that they are
kept modulo 2 ** width. They stand in lists, one for each row of a box of exponents, as in picks.
"""

from math import comb

from samewords.meaning import greater_degrees, text_degrees
from samewords.picks import box_rows, planes_of, turned
from samewords.verdicts import names_of_pair, twos


class Polynomial:
    """A polynomial in some inputs: a number for each row of exponents below the sizes."""

    def __init__(self, width, inputs, sizes, numbers):
        self.width = width
        self.inputs = inputs
        self.sizes = sizes
        self.numbers = numbers


def polynomial_of_pair(one, other, width):
    """Return the polynomial of the difference of two formulas without a sum."""
    names = names_of_pair(one, other)
    found = greater_degrees(text_degrees(one), text_degrees(other))
    sizes = [found[name] + 1 for name in names]
    terms = added_terms(terms_of(one, names), terms_of(other, names), -1)
    mask = (1 << width) - 1
    return Polynomial(width, names, sizes, [terms.get(row, 0) & mask for row in box_rows(sizes)])


def terms_of(formula, names):
    """Return the dict from the exponents of the names to whole numbers that a formula is."""
    if formula.kind == "number":
        return {(0,) * len(names): formula.things[0]}
    if formula.kind == "name":
        return {tuple([1 if name == formula.things[0] else 0 for name in names]): 1}
    terms = terms_of(formula.things[0], names)
    if formula.kind == "negative":
        return {row: -terms[row] for row in terms}
    if formula.kind == "shift":
        return {row: terms[row] << formula.things[1] for row in terms}
    others = terms_of(formula.things[1], names)
    if formula.kind == "plus":
        return added_terms(terms, others, 1)
    if formula.kind == "minus":
        return added_terms(terms, others, -1)
    return multiplied_terms(terms, others)


def added_terms(terms, others, sign):
    """Return the terms of a sum, or of a difference if sign is -1."""
    found = {row: terms[row] for row in terms}
    for row, number in others.items():
        found[row] = found.get(row, 0) + sign * number
    return found


def multiplied_terms(terms, others):
    """Return the terms of a product."""
    found = {}
    for row, number in terms.items():
        for other_row, other in others.items():
            both = tuple([power + more for power, more in zip(row, other_row)])
            found[both] = found.get(both, 0) + number * other
    return found


def mixed(numbers, sizes, mixes, width):
    """Return the numbers mixed along each axis: mixes has for each axis the rows of weights of a matrix."""
    mask = (1 << width) - 1
    for size, weights in zip(sizes, mixes):
        parts = planes_of(numbers, size)
        lines = list(zip(*parts))
        planes = [[dot(line, row) & mask for line in lines] for row in weights]
        numbers = turned(planes)
    return numbers


def dot(line, row):
    """Return the sum of the products of two rows of numbers."""
    return sum([number * weight for number, weight in zip(line, row)])


def in_class(polynomial, power, residues):
    """Return the numbers of the polynomial with 2 ** power * t + residue in the place of each name."""
    mixes = [shifting(size, power, residue) for size, residue in zip(polynomial.sizes, residues)]
    return mixed(polynomial.numbers, polynomial.sizes, mixes, polynomial.width)


def shifting(size, power, residue):
    """Return the weights that make powers of 2 ** power * t + residue powers of t."""
    powers = powers_of(residue, size)
    rows = []
    for exponent in range(size):
        ahead = [0] * exponent
        behind = [comb(most, exponent) * powers[most - exponent] for most in range(exponent, size)]
        rows.append(ahead + [weight << (power * exponent) for weight in behind])
    return rows


def powers_of(number, many):
    """Return the list of the first so many powers of a number, 1 ahead."""
    found = [1]
    for _ in range(many - 1):
        found.append(found[-1] * number)
    return found


def in_picks(numbers, sizes, width):
    """Return the numbers of a polynomial in C(t, e) * C(u, f) .. for those of t ** e * u ** f .."""
    return mixed(numbers, sizes, [picking(size) for size in sizes], width)


def picking(size):
    """Return the weights that make powers of t sums of C(t, 0), C(t, 1) .."""
    # t ** (m + 1) has e * (what t ** m has of C(t, e) and C(t, e - 1) together) of C(t, e).
    columns = [[1] + [0] * (size - 1)]
    for _ in range(size - 1):
        last = columns[-1]
        columns.append([0] + [place * (last[place] + last[place - 1]) for place in range(1, size)])
    return [list(row) for row in zip(*columns)]


def word_of_polynomial(polynomial, values):
    """Return the word of the polynomial where the names have these values."""
    mixes = [[powers_of(value, size)] for size, value in zip(polynomial.sizes, values)]
    return mixed(polynomial.numbers, polynomial.sizes, mixes, polynomial.width)[0]


def twos_within(number, width):
    """Return how often 2 divides a number, at most the width."""
    return width if number == 0 else min(twos(number), width)
