"""Formulas for tables: [15]."""

import math

from samewords.errors import BadTable, NoFormula, TooMany
from samewords.formulas import Formula, Name, Number, Sum
from samewords.meaning import is_small
from samewords.shapes import formula_of, is_sumless, sumless
from samewords.tables import Table, table
from tests.helper import X, Case, by_lot, formula_by_lot, not_tables

I = Name("i")


def twos_of(pick):
    """How often 2 divides the factorials of a pick."""
    whole = math.prod(math.factorial(number) for number in pick)
    return (whole & -whole).bit_length() - 1


def pick_by_lot(lot, many, most, width):
    """A pick of so many numbers whose sum is at most this."""
    pick = [0] * many
    for _ in range(most):
        at = lot.randrange(many)
        if pick[at] + 1 < 2 ** width:
            pick[at] += 1
    return tuple(pick)


def has_sum(formula):
    return isinstance(formula, Formula) and (
        formula.kind == "sum" or any(has_sum(thing) for thing in formula.things))


class FormulaOf(Case):
    def right(self, made):
        """The formula has the table, no other inputs, and is small if the table's degrees let it be."""
        found = formula_of(made)
        self.assertTrue(set(found.input_names()) <= set(made.inputs))
        self.assertEqual(is_small(found), math.prod(made.degree(name) + 1 for name in made.inputs) <= 400)
        if is_small(found):
            self.assertEqual(table(found, made.width), made)
        return found

    def test_ordinary(self):
        self.right(Table(8, (), {}))
        self.right(Table(8, (), {(): 7}))
        self.right(Table(1, ("x",), {(1,): 1}))
        self.right(Table(64, ("x", "y"), {(1, 1): 2 ** 64 - 1, (0, 2): 1, (0, 0): 5}))

    def test_by_lot(self):
        lot = by_lot(31)
        for _ in range(80):
            width = lot.choice([1, 2, 4, 64])
            names = ("a", "i", "j", "x")[:lot.randrange(1, 5)]
            rows = {pick_by_lot(lot, len(names), 6, width): lot.randrange(2 ** width) for _ in range(5)}
            self.right(Table(width, names, rows))

    def test_8_rows_with_sums_of_12(self):
        lot = by_lot(32)
        for many in (1, 2, 3, 4):
            for _ in range(15):
                rows = {}
                while len(rows) < (8 if many > 1 else 1):
                    rows[pick_by_lot(lot, many, 12, 64)] = lot.randrange(2, 2 ** 64)
                self.right(Table(64, ("a", "b", "c", "d")[:many], rows))
        self.right(Table(64, ("x",), {(number,): 2 ** 64 - 1 for number in range(5, 13)}))
        self.right(Table(64, ("abcdefgh", "i", "j", "k"), {(12 - a, a, 0, 0): 3 + a for a in range(7)}))

    def test_larger_tables(self):
        self.right(Table(64, ("x",), {(number,): 5 for number in range(13)}))
        self.fails(TooMany, None, formula_of,
                   Table(64, ("a", "b", "c"), {(a, b, c): 3 for a in range(10) for b in range(10) for c in range(4)}))

    def test_wrong(self):
        for thing in not_tables():
            self.fails(BadTable, thing, formula_of, thing)


class Sumless(Case):
    def test_ordinary(self):
        for width, inputs, rows, found in (
                (8, (), {}, True), (8, (), {(): 5}, True), (8, ("x",), {(1,): 3}, True), (8, ("x",), {(2,): 1}, False),
                (8, ("x",), {(2,): 2}, True), (8, ("x",), {(3,): 2}, True), (8, ("x",), {(4,): 4}, False),
                (8, ("x",), {(4,): 8}, True), (8, ("x", "y"), {(2, 2): 2}, False), (8, ("x", "y"), {(2, 2): 4}, True),
                (3, ("x",), {(4,): 4}, False), (3, ("x",), {(7,): 4}, False), (2, ("x",), {(3,): 2}, True),
                (1, ("x", "y"), {(1, 1): 1}, True), (8, ("x",), {(12,): 128}, False), (64, ("x",), {(12,): 1024}, True)):
            self.assertIs(is_sumless(Table(width, inputs, rows)), found)

    def test_formulas_without_sums_have_such_tables(self):
        lot = by_lot(33)
        for _ in range(80):
            formula = formula_by_lot(lot, ["x", "y"], 4, [], "")
            if is_small(formula):
                for width in (1, 2, 3, 8, 64):
                    made = table(formula, width)
                    self.assertIs(is_sumless(made), True)
                    self.assertEqual(table(sumless(made), width), made)

    def test_by_lot(self):
        lot = by_lot(34)
        for _ in range(150):
            width = lot.choice([1, 2, 3, 8, 64])
            names = ("a", "i", "x", "y")[:lot.randrange(1, 5)]
            rows = {}
            for _ in range(4):
                pick = pick_by_lot(lot, len(names), 6, width)
                rows[pick] = (lot.randrange(2 ** width) << max(0, twos_of(pick) - lot.randrange(10) // 9)) % 2 ** width
            made = Table(width, names, rows)
            wrong = [pick for pick, word in made.rows() if word % 2 ** twos_of(pick)]
            self.assertIs(is_sumless(made), not wrong)
            if wrong:
                self.fails(NoFormula, wrong[0], sumless, made)
            else:
                found = sumless(made)
                self.assertFalse(has_sum(found))
                self.assertTrue(set(found.input_names()) <= set(made.inputs))
                self.assertEqual(is_small(found), math.prod(made.degree(name) + 1 for name in made.inputs) <= 400)
                if is_small(found):
                    self.assertEqual(table(found, width), made)

    def test_5_rows_with_sums_of_12(self):
        self.assertEqual(table(sumless(Table(64, ("x",), {(n,): 3 << 20 for n in range(8, 13)})), 64),
                         Table(64, ("x",), {(n,): 3 << 20 for n in range(8, 13)}))
        lot = by_lot(35)
        for many in (2, 3, 4):
            for _ in range(15):
                rows = {}
                while len(rows) < 5:
                    rows[pick_by_lot(lot, many, 12, 64)] = lot.randrange(2 ** 53) << 11
                made = Table(64, ("a", "b", "c", "d")[:many], rows)
                found = sumless(made)
                self.assertEqual(is_small(found), math.prod(made.degree(name) + 1 for name in made.inputs) <= 400)
                if is_small(found):
                    self.assertEqual(table(found, 64), made)

    def test_too_many(self):
        rows = {(a, b, c): 2 ** 40 for a in range(10) for b in range(10) for c in range(4)}
        self.fails(TooMany, None, sumless, Table(64, ("a", "b", "c"), rows))
        # What has no formula is told ahead of that.
        self.fails(NoFormula, (9, 9, 3), sumless, Table(64, ("a", "b", "c"), {**rows, (9, 9, 3): 3}))

    def test_first_row(self):
        self.fails(NoFormula, (0, 2), sumless, Table(8, ("x", "y"), {(2, 0): 1, (0, 2): 1, (1, 1): 1, (4, 4): 1}))
        self.fails(NoFormula, (2, 0), sumless, Table(8, ("x", "y"), {(2, 0): 1, (0, 2): 2, (0, 3): 1}))
        self.fails(NoFormula, (2,), sumless, table(Sum("i", X, I), 64))

    def test_wrong(self):
        for thing in not_tables() + [Number(3)]:
            self.fails(BadTable, thing, is_sumless, thing)
            self.fails(BadTable, thing, sumless, thing)
