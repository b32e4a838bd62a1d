"""Tables: what a formula is for all inputs, as a sum of words times C(x, e) * C(y, f) * .."""

from math import comb

from samewords.checks import (check_name, check_shift, check_values, check_width, is_integer,
                              is_name, is_row, is_word)
from samewords.errors import BadEnds, BadName, BadNumber, BadPick, BadTable, TooMany
from samewords.formulas import check_callless
from samewords.meaning import MOST_DEGREE, MOST_INPUTS, MOST_ROWS, is_small
from samewords.picks import (added, box_picks, box_rows, box_words, cleaned, in_order, lifted,
                             multiplied, product_terms, rows_in_box)


class Table:
    """A table: a width, ascending inputs, and a word that is not 0 for some picks."""

    def __init__(self, width, inputs, rows):
        check_width(width)
        check_inputs(inputs)
        check_picks(width, len(inputs), rows)
        names, kept = cleaned(width, inputs, rows)
        check_few(kept)
        self.width = width
        self.inputs = names
        self._rows = ordered_rows(kept)

    def rows(self):
        """Return the list of the tuples (pick, word), by the sum of the pick, then by the pick."""
        return list(self._rows)

    def degree(self, name):
        """Return the greatest number that a pick has for the input."""
        check_name(name)
        return max([lifted(self.inputs, pick, (name,))[0] for pick, _ in self._rows], default=0)

    def sum_below(self, index, bound):
        """Return the table of the sum of this one for index = 0 .. bound - 1."""
        check_name(index)
        check_name(bound)
        if bound == index:
            raise BadName(bound)
        kept = [name for name in self.inputs if name not in (index, bound)]
        found = {}
        for pick, word in self._rows:
            number, other = lifted(self.inputs, pick, (index, bound))
            for power, ways in product_terms(number + 1, other):
                wide = lifted(self.inputs, pick, kept) + (power,)
                found[wide] = found.get(wide, 0) + ways * word
        written = kept + [bound]
        names = sorted(written)
        return made(self.width, names, {lifted(written, pick, names): found[pick] for pick in found})

    def with_word(self, name, word):
        """Return the table with a word in the place of the input."""
        check_name(name)
        if not is_integer(word):
            raise BadNumber(word)
        number = word & ((1 << self.width) - 1)
        return weighed(self, name, [comb(number, at) for at in range(MOST_DEGREE + 1)])

    def word_at(self, values):
        """Return the word at an input."""
        check_values(self.inputs, self.width, values)
        found = 0
        for pick, word in self._rows:
            for name, number in zip(self.inputs, pick):
                word = word * comb(values[name], number)
            found = found + word
        return found & ((1 << self.width) - 1)

    def __add__(self, other):
        return joined(self, other, 1)

    def __sub__(self, other):
        return joined(self, other, -1)

    def __mul__(self, other):
        check_same_width(self, other)
        names, rows = multiplied(self.inputs, self.rows(), other.inputs, other.rows(), self.width, MOST_ROWS)
        return made(self.width, names, rows)

    def __neg__(self):
        return made(self.width, self.inputs, {pick: -word for pick, word in self._rows})

    def __lshift__(self, other):
        check_shift(other)
        return made(self.width, self.inputs, {pick: word << other for pick, word in self._rows})

    def __eq__(self, other):
        if not isinstance(other, Table):
            return False
        return self.width == other.width and self.inputs == other.inputs and self._rows == other._rows


def check_inputs(inputs):
    """Raise BadName for what is no row of at most 4 ascending names."""
    if not is_row(inputs) or len(inputs) > MOST_INPUTS:
        raise BadName(inputs)
    for at, name in enumerate(inputs):
        if not is_name(name) or at > 0 and name <= inputs[at - 1]:
            raise BadName(name)


def check_picks(width, many, rows):
    """Raise BadPick for what is no dict from picks of so many words to integers."""
    if not isinstance(rows, dict):
        raise BadPick(rows)
    for pick, word in rows.items():
        if not isinstance(pick, tuple) or len(pick) != many or not is_integer(word):
            raise BadPick(pick)
        if not all([is_word(number, width) for number in pick]):
            raise BadPick(pick)


def check_table(thing):
    """Raise BadTable for what is no table."""
    if not isinstance(thing, Table):
        raise BadTable(thing)


def check_same_width(one, other):
    """Raise BadTable if the other thing is no table of the width of the one."""
    if not isinstance(other, Table) or other.width != one.width:
        raise BadTable(other)


def check_few(kept):
    """Raise TooMany for more rows than a table has, or for a number that is too great."""
    if len(kept) > MOST_ROWS or any([max(pick, default=0) > MOST_DEGREE for pick in kept]):
        raise TooMany()


def ordered_rows(kept):
    """Return the tuple of the picks with their words, by the sum of the pick, then by the pick."""
    return tuple([(pick, kept[pick]) for pick in in_order(kept)])


def made(width, names, rows):
    """Return the table of names and rows, some of which may not be wanted, or raise TooMany."""
    used, kept = cleaned(width, names, rows)
    if len(used) > MOST_INPUTS:
        raise TooMany()
    check_few(kept)
    # The names and the picks come from tables, so that they are not asked for again.
    found = Table(width, (), {})
    found.inputs = used
    found._rows = ordered_rows(kept)
    return found


def joined(one, other, sign):
    """Return the sum of two tables, or their difference if sign is -1."""
    check_same_width(one, other)
    names, rows = added(one.inputs, one.rows(), other.inputs, other.rows(), sign)
    return made(one.width, names, rows)


def weighed(given, name, weights):
    """Return the table without the input, each word times the weight of the number it had for it."""
    kept = [one for one in given.inputs if one != name]
    found = {}
    for pick, word in given.rows():
        short = lifted(given.inputs, pick, kept)
        number = lifted(given.inputs, pick, (name,))[0]
        found[short] = found.get(short, 0) + word * weights[number]
    return made(given.width, kept, found)


def table(formula, width):
    """Return the table that stands for the formula at all inputs of the width."""
    check_callless(formula)
    check_width(width)
    if not is_small(formula):
        raise TooMany()
    return table_of_small(formula, width, {})


def table_of_name(width, name):
    """Return the table of an input."""
    return Table(width, (name,), {(1,): 1})


def table_of_small(formula, width, known):
    """Return the table of a formula that is small, where known has the tables that some names stand for.

    All within it is small, too, so that no table is too large.
    """
    if formula.kind == "number":
        return made(width, (), {(): formula.things[0]})
    if formula.kind == "name":
        name = formula.things[0]
        return known[name] if name in known else table_of_name(width, name)
    if formula.kind == "sum":
        return table_of_sum(formula, width, known)
    one = table_of_small(formula.things[0], width, known)
    if formula.kind == "negative":
        return -one
    if formula.kind == "shift":
        return one << formula.things[1]
    other = table_of_small(formula.things[1], width, known)
    if formula.kind == "plus":
        return one + other
    if formula.kind == "minus":
        return one - other
    return one * other


def table_of_sum(formula, width, known):
    """Return the table of a small sum; none of the known names is an index or a bound."""
    index, below, body = formula.things
    inner = table_of_small(body, width, known)
    if below.kind == "name":
        return inner.sum_below(index, below.things[0])
    return sum_below_number(inner, index, below.things[0])


def sum_below_number(given, index, number):
    """Return the table of the sum of a table for index = 0, 1 .. below a number, taken modulo 2 ** width."""
    # A number as the bound adds nothing to the degrees, so that no C(n, 13) may stand here as a row.
    many = number & ((1 << given.width) - 1)
    return weighed(given, index, [comb(many, at + 1) for at in range(MOST_DEGREE + 1)])


def table_of_box(width, inputs, ends, words):
    """Return the table, with numbers of at most ends, that has these words in the box of these ends."""
    check_width(width)
    check_inputs(inputs)
    check_ends(width, len(inputs), ends)
    sizes = box_sizes(width, ends)
    for pick in in_order(box_rows(sizes)):
        if not isinstance(words, dict) or not is_integer(words.get(pick)):
            raise BadPick(pick)
    given = [words[row] & ((1 << width) - 1) for row in box_rows(sizes)]
    return made(width, inputs, box_picks(given, sizes, width))


def check_ends(width, many, ends):
    """Raise BadEnds for what are no ends of a box of so many inputs."""
    if not is_row(ends) or len(ends) != many:
        raise BadEnds(ends)
    if not all([is_integer(end) and 0 <= end <= MOST_DEGREE for end in ends]):
        raise BadEnds(ends)
    if rows_in_box(box_sizes(width, ends)) > MOST_ROWS:
        raise BadEnds(ends)


def box_sizes(width, ends):
    """Return the sizes of the box of these ends, where no number is above the words of the width."""
    return [min(end + 1, 1 << width) for end in ends]


def words_of_box(given, names, sizes):
    """Return the dict from the rows of a box to the words of a table there, all its picks being in the box."""
    rows = [(lifted(given.inputs, pick, names), word) for pick, word in given.rows()]
    return dict(zip(box_rows(sizes), box_words(rows, sizes, given.width)))


def described(formula, width):
    """Return the text of the table of the formula."""
    found = table(formula, width)
    texts = []
    for pick, word in found.rows():
        factors = [f" * C({name}, {number})" for name, number in zip(found.inputs, pick) if number > 0]
        texts.append(str(word) + "".join(factors))
    return " + ".join(texts) or "0"
