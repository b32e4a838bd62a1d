"""Tables, reckoning with them, the little box, and describing: [10] to [14] and [35]."""

import itertools

from samewords.errors import (BadEnds, BadFormula, BadName, BadNumber, BadPick, BadTable, BadValue, BadWidth, TooMany)
from samewords.formulas import Name, Number, Sum
from samewords.meaning import is_small, told
from samewords.tables import Table, described, table, table_of_box
from tests.helper import (X, Y, Case, any_things, big_power, by_lot, formula_by_lot, inputs_of, not_callless,
                          not_integers, not_names, not_rows, not_tables, not_widths, product_of, slow_told,
                          slow_word_at)

N = Name("n")
I = Name("i")
J = Name("j")
MOST = 2 ** 64 - 1


def table_by_lot(lot, width, names, rows, most):
    found = {}
    for _ in range(rows):
        pick = tuple(lot.randrange(min(most + 1, 2 ** width)) for _ in names)
        found[pick] = lot.randrange(2 ** width)
    return Table(width, names, found)


def box_of(ends, width):
    return list(itertools.product(*[range(min(end, 2 ** width - 1) + 1) for end in ends]))


class OfFormulas(Case):
    def test_ordinary(self):
        self.assertEqual(table(Number(5), 8), Table(8, (), {(): 5}))
        self.assertEqual(table(Number(256), 8), Table(8, (), {}))
        self.assertEqual(table(X, 8), Table(8, ("x",), {(1,): 1}))
        self.assertEqual(table(X * X, 8), Table(8, ("x",), {(1,): 1, (2,): 2}))
        self.assertEqual(table(X * Y - X, 8), Table(8, ("x", "y"), {(1, 1): 1, (1, 0): 255}))
        self.assertEqual(table(X - X, 8), Table(8, (), {}))
        self.assertEqual(table(X << 8, 8), Table(8, (), {}))
        self.assertEqual(table(Sum("i", N, I), 8), Table(8, ("n",), {(2,): 1}))
        self.assertEqual(table(Sum("i", N, X), 8), Table(8, ("n", "x"), {(1, 1): 1}))
        self.assertEqual(table(Sum("i", Number(10), I), 8), Table(8, (), {(): 45}))
        self.assertEqual(table(Sum("i", Number(256 + 10), I), 8), Table(8, (), {(): 45}))

    def test_words_at_all_inputs(self):
        lot = by_lot(11)
        done = 0
        while done < 120:
            formula = formula_by_lot(lot, ["x", "y"], 4, ["x", "y"])
            if not is_small(formula):
                continue
            done += 1
            for width in (1, 2, 3):
                found = table(formula, width)
                for values in inputs_of(["x", "y"], width):
                    word = slow_told(formula, width, values)[0]
                    self.assertEqual(found.word_at(values), word)
                    self.assertEqual(slow_word_at(found, values), word)

    def test_words_at_great_inputs(self):
        lot = by_lot(12)
        for _ in range(60):
            formula = formula_by_lot(lot, ["x", "y", "z"], 4, [], "")
            if is_small(formula):
                for width in (8, 33, 64):
                    values = {name: lot.randrange(2 ** width) for name in "xyz"}
                    self.assertEqual(table(formula, width).word_at(values), told(formula, width, values))

    def test_sums_without_turns(self):
        formula = Sum("i", N, I * X)
        self.assertEqual(table(formula, 64).word_at({"n": MOST, "x": 3}), 3 * (MOST * (MOST - 1) // 2) % 2 ** 64)
        self.assertEqual(table(Sum("i", Number(2 ** 63), I), 64).word_at(None), 2 ** 63 * (2 ** 63 - 1) // 2 % 2 ** 64)

    def test_the_form_of_all_tables(self):
        lot = by_lot(13)
        for _ in range(150):
            formula = formula_by_lot(lot, ["x", "y", "z"], 4, ["x", "z"])
            if not is_small(formula):
                continue
            for width in (1, 2, 5, 64):
                found = table(formula, width)
                self.assertEqual(found.inputs, tuple(sorted(found.inputs)))
                for pick, word in found.rows():
                    self.assertTrue(0 < word < 2 ** width)
                    self.assertTrue(all(0 <= number < 2 ** width for number in pick))
                for at in range(len(found.inputs)):
                    self.assertTrue(any(pick[at] for pick, _ in found.rows()))
                rows = [pick for pick, _ in found.rows()]
                self.assertEqual(rows, sorted(rows, key=lambda pick: (sum(pick), pick)))

    def test_picks_from_2_to_the_width_on_are_left_out(self):
        self.assertEqual(table(X * X, 1), table(X, 1))
        self.assertEqual(table(X * (X - Number(1)), 1).rows(), [])
        self.assertEqual(table(Sum("i", N, I), 1).rows(), [])
        self.assertEqual(table(Sum("i", N, I * I), 2).degree("n"), 3)
        self.assertEqual(table(Sum("i", N, I * I * I), 2).degree("n"), 3)
        self.assertEqual(table(Sum("i", N, Sum("j", I, Sum("k", J, Name("k")))), 2).rows(), [])

    def test_too_many_if_not_small_and_only_then(self):
        lot = by_lot(14)
        for formula in [formula_by_lot(lot, ["x", "y", "z"], 6, ["x", "z"]) for _ in range(80)]:
            if is_small(formula):
                table(formula, 64)
            else:
                self.fails(TooMany, None, table, formula, 64)
                self.fails(TooMany, None, table, formula, 1)
                self.fails(TooMany, None, described, formula, 1)

    def test_edges_of_small(self):
        self.assertEqual(table(big_power("x", 12), 64).degree("x"), 12)
        self.fails(TooMany, None, table, big_power("x", 13), 64)
        full = product_of({"a": 4, "b": 4, "c": 3, "d": 3})
        self.assertEqual(len(table(full, 64).rows()), 4 * 4 * 3 * 3)
        plus = Number(1)
        for name, degree in (("a", 4), ("b", 4), ("c", 3), ("d", 3)):
            for _ in range(degree):
                plus = plus * (Name(name) + Number(3))
        self.assertEqual(len(table(plus, 64).rows()), 400)
        self.fails(TooMany, None, table, product_of({"a": 4, "b": 4, "c": 4, "d": 3}), 64)
        self.fails(TooMany, None, table, Name("a") + Name("b") + Name("c") + Name("d") + Name("e"), 1)
        # A number adds nothing to the degree, so that C(n, 13) must not stand in the way.
        summed = Sum("i", Number(10 ** 6), big_power("i", 12))
        self.assertEqual(table(summed, 64).word_at({}), sum(i ** 12 for i in range(10 ** 6)) % 2 ** 64)
        self.assertEqual(table(Sum("i", N, big_power("i", 11)), 64).degree("n"), 12)
        self.assertEqual(table(Sum("i", N, big_power("n", 11)), 64).degree("n"), 12)

    def test_wrong(self):
        for function in (table, described):
            for formula in not_callless():
                self.fails(BadFormula, formula, function, formula, None)
            for width in not_widths():
                self.fails(BadWidth, width, function, big_power("x", 13), width)

    def test_described(self):
        for formula, text in (
                (Number(0), "0"), (X - X, "0"), (Number(7), "7"), (X, "1 * C(x, 1)"), (-X, "255 * C(x, 1)"),
                (Number(3) + (X << 1) + Sum("i", X, I * Y << 2), "3 + 2 * C(x, 1) + 4 * C(x, 2) * C(y, 1)"),
                (X * X + Y, "1 * C(y, 1) + 1 * C(x, 1) + 2 * C(x, 2)")):
            self.assertEqual(described(formula, 8), text)
        self.assertEqual(described(X + Number(3), 1), "1 + 1 * C(x, 1)")


class Objects(Case):
    def test_attributes(self):
        made = Table(8, ["x", "y"], {(1, 2): 3, (0, 0): 256 + 4, (2, 0): -1})
        self.assertEqual((made.width, made.inputs), (8, ("x", "y")))
        self.assertEqual(made.rows(), [((0, 0), 4), ((2, 0), 255), ((1, 2), 3)])
        self.assertEqual(vars(made)["width"], 8)
        self.assertEqual(vars(made)["inputs"], ("x", "y"))
        for name in ("rows", "degree", "sum_below", "with_word", "word_at", "__add__", "__sub__", "__mul__",
                     "__lshift__", "__neg__", "__eq__"):
            self.assertIn(name, vars(Table))

    def test_order_of_rows(self):
        rows = {pick: 1 for pick in itertools.product(range(4), repeat=3)}
        made = Table(8, ("x", "y", "z"), rows)
        self.assertEqual([pick for pick, _ in made.rows()], sorted(rows, key=lambda pick: (sum(pick), pick)))

    def test_what_is_not_wanted_is_left_out(self):
        made = Table(8, ("x", "y", "z"), {(0, 1, 0): 5, (1, 0, 0): 256, (0, 2, 1): 0, (0, 0, 0): 512})
        self.assertEqual((made.inputs, made.rows()), (("y",), [((1,), 5)]))
        self.assertEqual(Table(3, ("x",), {(0,): 5}), Table(3, (), {(): 5}))
        self.assertEqual(Table(3, ("x",), {}).inputs, ())

    def test_copies(self):
        inputs, rows = ["x", "y"], {(1, 2): 3}
        made = Table(8, inputs, rows)
        inputs.append("z")
        inputs[0] = "a"
        rows[(1, 2)] = 4
        rows[(0, 0)] = 4
        self.assertEqual((made.inputs, made.rows()), (("x", "y"), [((1, 2), 3)]))
        self.fresh(made.rows)
        self.assertEqual(inputs, ["a", "y", "z"])

    def test_bad_width(self):
        for width in not_widths():
            self.fails(BadWidth, width, Table, width, None, None)

    def test_bad_inputs(self):
        for inputs in not_rows() + [["a", "b", "c", "d", "e"], (None,) * 5]:
            self.fails(BadName, inputs, Table, 8, inputs, None)
        for name in not_names():
            self.fails(BadName, name, Table, 8, ["a", name, None], None)
            self.fails(BadName, name, Table, 8, (name,), None)
        self.fails(BadName, "a", Table, 8, ("b", "a", "c"), None)
        self.fails(BadName, "b", Table, 8, ("b", "b"), None)
        self.fails(BadName, "ab", Table, 8, ("a", "b", "ab", None), {})
        self.assertEqual(Table(8, ["a", "ab", "b"], {}).inputs, ())

    def test_bad_rows(self):
        for rows in any_things():
            if not isinstance(rows, dict):
                self.fails(BadPick, rows, Table, 8, ("x",), rows)
        for pick in (None, True, 1, "x", (), (1, 2), (-1,), (256,), (True,), (False,), ("x",), (None,), ((1,),), (10 ** 5000,)):
            self.fails(BadPick, pick, Table, 8, ("x",), {(5,): 1, pick: 1, (None, None): 1})
        for word in not_integers():
            self.fails(BadPick, (2,), Table, 8, ("x",), {(1,): 1, (2,): word, (300,): 1})
        self.fails(BadPick, (2,), Table, 1, ("x",), {(2,): 0})
        self.fails(BadPick, (0,), Table, 1, (), {(0,): 0})

    def test_400_rows(self):
        rows = {(a, b, c): 1 for a in range(10) for b in range(10) for c in range(4)}
        self.assertEqual(len(Table(8, ("a", "b", "c"), rows).rows()), 400)
        self.fails(TooMany, None, Table, 8, ("a", "b", "c"), {**rows, (0, 0, 4): 1})
        self.assertEqual(len(Table(8, ("a", "b", "c"), {**rows, (0, 0, 4): 256}).rows()), 400)

    def test_numbers_above_12(self):
        self.assertEqual(Table(8, ("x",), {(12,): 1}).degree("x"), 12)
        self.fails(TooMany, None, Table, 8, ("x",), {(13,): 1})
        self.assertEqual(Table(8, ("x",), {(13,): 0, (200,): 256}).rows(), [])
        self.fails(BadPick, "y", Table, 8, ("x",), {(13,): 1, "y": 1})

    def test_degree(self):
        made = Table(8, ("x", "y"), {(1, 2): 3, (5, 0): 1})
        self.assertEqual([made.degree(name) for name in ("x", "y", "z")], [5, 2, 0])
        self.assertEqual(Table(8, (), {}).degree("x"), 0)
        for name in not_names():
            self.fails(BadName, name, made.degree, name)

    def test_equal(self):
        one = Table(8, ("x",), {(1,): 1})
        self.assertEqual(one, Table(8, ["x", "y"], {(1, 0): 257, (0, 0): 0}))
        for other in (Table(7, ("x",), {(1,): 1}), Table(8, ("y",), {(1,): 1}), Table(8, ("x",), {(1,): 2}),
                      Table(8, ("x",), {(2,): 1}), Table(8, ("x",), {(1,): 1, (0,): 1}), Table(8, (), {})):
            self.assertFalse(one == other)
            self.assertTrue(one != other)
        self.assertFalse(Table(8, (), {}) == Table(9, (), {}))
        for thing in not_tables():
            self.assertFalse(one == thing)
            self.assertTrue(one != thing)


class Reckoning(Case):
    def test_operators_by_words(self):
        lot = by_lot(15)
        for _ in range(60):
            width = lot.choice([1, 2, 3])
            one = table_by_lot(lot, width, ("x", "y"), 4, 2)
            other = table_by_lot(lot, width, ("y", "z"), 4, 3)
            k = lot.randrange(4)
            results = [(one + other, lambda a, b: a + b), (one - other, lambda a, b: a - b),
                       (one * other, lambda a, b: a * b), (-one, lambda a, b: -a), (one << k, lambda a, b: a << k)]
            for values in inputs_of(["x", "y", "z"], width):
                a, b = slow_word_at(one, values), slow_word_at(other, values)
                for found, reckon in results:
                    self.assertEqual(slow_word_at(found, values), reckon(a, b) % 2 ** width)

    def test_operators_at_great_inputs(self):
        lot = by_lot(16)
        for _ in range(40):
            one = table_by_lot(lot, 64, ("a", "x"), 5, 6)
            other = table_by_lot(lot, 64, ("x", "y"), 5, 6)
            values = {name: lot.randrange(2 ** 64) for name in "axy"}
            a, b = slow_word_at(one, values), slow_word_at(other, values)
            for found, word in ((one + other, a + b), (one - other, a - b), (one * other, a * b), (-one, -a),
                                (one << 64, 0), (one << 7, a << 7), (one << 0, a)):
                self.assertEqual(slow_word_at(found, values), word % 2 ** 64)

    def test_no_shared_input(self):
        one = Table(8, ("a", "c"), {(1, 2): 3, (0, 1): 1})
        other = Table(8, ("b", "d"), {(3, 0): 5, (0, 1): 7})
        self.assertEqual((one * other).rows(), [((0, 0, 1, 1), 7), ((0, 3, 1, 0), 5), ((1, 0, 2, 1), 21), ((1, 3, 2, 0), 15)])
        self.assertEqual((one + other).inputs, ("a", "b", "c", "d"))
        self.assertEqual((one * Table(8, (), {})).rows(), [])
        self.assertEqual((Table(8, (), {}) * one).rows(), [])
        self.assertEqual(one * Table(8, (), {(): 2}), one + one)

    def test_bad_table(self):
        one = Table(8, ("x",), {(1,): 1})
        for thing in not_tables() + [Table(7, ("x",), {(1,): 1}), Table(64, (), {})]:
            self.fails(BadTable, thing, lambda other: one + other, thing)
            self.fails(BadTable, thing, lambda other: one - other, thing)
            self.fails(BadTable, thing, lambda other: one * other, thing)

    def test_bad_number(self):
        one = Table(8, ("x",), {(1,): 1})
        for k in not_integers() + [-1, 65]:
            self.fails(BadNumber, k, lambda other: one << other, k)
        self.assertEqual((one << 64).rows(), [])

    def test_more_than_4_inputs(self):
        one = Table(8, ("a", "b", "c", "d"), {(1, 0, 0, 0): 1, (0, 1, 1, 1): 16})
        other = Table(8, ("e",), {(1,): 1})
        for make in (lambda: one + other, lambda: one - other, lambda: one * other, lambda: other * one):
            self.fails(TooMany, None, make)
        # Asked behind leaving out: the product of 16 and 16 is no row, and the fifth input goes with it.
        left = Table(8, ("a", "b", "c", "d"), {(1, 1, 1, 1): 16})
        self.assertEqual((left * Table(8, ("e",), {(1,): 16})).rows(), [])
        self.assertEqual((one * Table(8, ("e",), {(1,): 16})).inputs, ("a", "e"))
        five = Table(8, ("a", "b", "c", "d"), {(0, 1, 1, 1): 1, (1, 0, 0, 0): 5})
        self.assertEqual((five - Table(8, ("a", "e"), {(1, 0): 5}) + Table(8, ("d",), {(1,): 1})).inputs, ("b", "c", "d"))

    def test_products_too_large(self):
        self.assertEqual((Table(8, ("x",), {(6,): 1}) * Table(8, ("x",), {(6,): 1})).degree("x"), 12)
        self.fails(TooMany, None, lambda: Table(8, ("x",), {(7,): 1}) * Table(8, ("x",), {(6,): 1}))
        # 13! / (6! * 7!) * .. : all rows of the product with a number above 12 are left out here.
        even = Table(1, ("x",), {(1,): 1})
        self.assertEqual(even * even, even)
        self.assertEqual((Table(8, ("x",), {(12,): 16}) * Table(8, ("x",), {(12,): 16})).rows(), [])
        self.assertEqual((Table(64, ("x",), {(12,): 2 ** 32}) * Table(64, ("x", "y"), {(12, 12): 2 ** 32})).rows(), [])
        wide = Table(8, ("a", "b"), {(a, b): 1 for a in range(10) for b in range(10)})
        other = Table(8, ("c", "d"), {(c, d): 1 for c in range(2) for d in range(2)})
        self.assertEqual(len((wide * other).rows()), 400)
        self.fails(TooMany, None, lambda: wide * (other + Table(8, ("c",), {(2,): 1})))
        self.fails(TooMany, None, lambda: Table(8, ("a", "b", "c"), {(a, b, c): 1 for a in range(10) for b in range(10)
                                                                     for c in range(4)}) + Table(8, ("a",), {(10,): 1}))

    def test_many_products_that_are_left_out(self):
        # Behind leaving out few rows are left, though far more than 400 pairs of rows meet.
        rows = {(a, b): 16 for a in range(13) for b in range(13)}
        one = Table(8, ("a", "b"), {**rows, (0, 0): 1})
        self.assertEqual(len((one * Table(8, ("c", "d"), {**rows, (0, 0): 1})).rows()), 2 * 168 + 1)
        self.assertEqual((Table(8, ("a",), {(12,): 128, (0,): 1}) * Table(8, ("a",), {(12,): 128, (0,): 1})).rows(),
                         [((), 1)])

    def test_many_rows_with_no_product(self):
        rows = {(a, b): 16 for a in range(13) for b in range(13)}
        product = Table(8, ("a", "b"), rows) * Table(8, ("c", "d"), rows)
        self.assertEqual(product.rows(), [])
        self.assertEqual((Table(8, ("a", "b"), rows) * Table(8, ("a", "b"), rows)).rows(), [])

    def test_sum_below(self):
        lot = by_lot(17)
        for _ in range(60):
            width = lot.choice([1, 2, 3])
            made = table_by_lot(lot, width, ("i", "n", "x"), 5, 3)
            summed = made.sum_below("i", "n")
            self.assertNotIn("i", summed.inputs)
            for values in inputs_of(["n", "x"], width):
                word = sum(slow_word_at(made, {**values, "i": turn}) for turn in range(values["n"]))
                self.assertEqual(slow_word_at(summed, values), word % 2 ** width)

    def test_sum_below_without_index_or_bound(self):
        made = Table(8, ("x",), {(1,): 1, (0,): 3})
        self.assertEqual(made.sum_below("i", "n"), Table(8, ("n", "x"), {(1, 1): 1, (1, 0): 3}))
        self.assertEqual(made.sum_below("i", "x"), table(Sum("i", X, X + Number(3)), 8))
        self.assertEqual(made.sum_below("x", "y"), Table(8, ("y",), {(2,): 1, (1,): 3}))
        self.assertEqual(Table(8, (), {}).sum_below("i", "n").rows(), [])

    def test_sum_below_wrong(self):
        made = Table(8, ("i", "x"), {(1, 12): 1})
        for name in not_names():
            self.fails(BadName, name, made.sum_below, name, None)
            self.fails(BadName, name, made.sum_below, "i", name)
        self.fails(BadName, "i", made.sum_below, "i", "i")
        self.fails(BadName, "z", made.sum_below, "z", "z")
        self.fails(TooMany, None, made.sum_below, "i", "x")
        self.fails(TooMany, None, Table(8, ("i",), {(12,): 1}).sum_below, "i", "n")
        self.assertEqual(Table(8, ("i",), {(11,): 1}).sum_below("i", "n").degree("n"), 12)
        self.fails(TooMany, None, Table(8, ("a", "b", "c", "d"), {(1, 1, 1, 1): 1}).sum_below, "i", "n")
        self.assertEqual(Table(8, ("a", "b", "c", "d"), {(1, 1, 1, 1): 1}).sum_below("a", "n").inputs, ("b", "c", "d", "n"))

    def test_with_word(self):
        lot = by_lot(18)
        for _ in range(40):
            width = lot.choice([2, 3, 64])
            made = table_by_lot(lot, width, ("x", "y"), 5, 3)
            word = lot.choice([0, 1, 2 ** width - 1, 2 ** width + 3, -1, -2 ** 70, 10 ** 30])
            put = made.with_word("x", word)
            self.assertNotIn("x", put.inputs)
            for y in (0, 1, 2, 3):
                values = {"y": y, "x": word % 2 ** width}
                self.assertEqual(slow_word_at(put, values), slow_word_at(made, values))
            self.assertEqual(made.with_word("z", word), made)
        high = Table(64, ("x", "y"), {(number, 1): 3 + number for number in range(13)})
        for word in (3, 12, MOST):
            self.assertEqual(high.with_word("x", word).word_at({"y": 1}), high.word_at({"x": word, "y": 1}))

    def test_with_word_wrong(self):
        made = Table(8, ("x",), {(1,): 1})
        for name in not_names():
            self.fails(BadName, name, made.with_word, name, None)
        for word in not_integers():
            self.fails(BadNumber, word, made.with_word, "x", word)
            self.fails(BadNumber, word, made.with_word, "z", word)

    def test_word_at(self):
        made = Table(64, ("x", "y"), {(12, 12): 3, (0, 0): 5})
        values = {"x": MOST, "y": MOST - 1, "z": None, 4: 5}
        self.assertEqual(made.word_at(values), slow_word_at(made, values))
        for thing in any_things():
            self.fails(BadValue, "x", Table(8, ("x", "y"), {(1, 1): 1}).word_at, [thing])
            self.assertEqual(Table(8, (), {(): 7}).word_at(thing), 7)
        for word in not_integers() + [-1, 256]:
            self.fails(BadValue, "x", Table(8, ("x", "y"), {(1, 1): 1}).word_at, {"x": word})
            self.fails(BadValue, "y", Table(8, ("x", "y"), {(1, 1): 1}).word_at, {"x": 255, "y": word})

    def test_they_stay_as_they_were(self):
        one = Table(8, ("x", "y"), {(1, 2): 3, (0, 1): 1})
        other = Table(8, ("x",), {(2,): 7})
        before = one.rows(), other.rows()
        for _ in range(2):
            one + other, one - other, one * other, -one, one << 3
            one.sum_below("x", "z"), one.with_word("x", 3), one.word_at({"x": 1, "y": 2})
        self.assertEqual((one.rows(), other.rows()), before)


class LittleBox(Case):
    def test_by_words(self):
        lot = by_lot(19)
        for _ in range(60):
            width = lot.choice([1, 2, 3, 64])
            ends = [lot.randrange(5) for _ in range(lot.randrange(4))]
            names = ["a", "b", "c"][:len(ends)]
            words = {row: lot.randrange(-5, 2 ** width + 9) for row in box_of(ends, width)}
            found = table_of_box(width, names, ends, words)
            for name, end in zip(names, ends):
                self.assertLessEqual(found.degree(name), end)
            for row, word in words.items():
                self.assertEqual(slow_word_at(found, dict(zip(names, row))), word % 2 ** width)

    def test_of_tables(self):
        lot = by_lot(20)
        for _ in range(30):
            made = table_by_lot(lot, 64, ("x", "y"), 6, 6)
            words = {row: slow_word_at(made, dict(zip(("x", "y"), row))) for row in box_of((6, 7), 64)}
            self.assertEqual(table_of_box(64, ("x", "y"), (6, 7), words), made)

    def test_edges(self):
        self.assertEqual(table_of_box(8, (), (), {(): 300}), Table(8, (), {(): 44}))
        self.assertEqual(table_of_box(8, ("x",), [0], {(0,): 5}), Table(8, (), {(): 5}))
        self.assertEqual(table_of_box(8, ("x",), [12], {(x,): x for x in range(13)}), table(X, 8))
        # The box is cut at 2 ** width - 1, so that few rows are left.
        ends = (12, 12, 12, 12)
        words = {row: sum(row) for row in box_of(ends, 2)}
        self.assertEqual(len(words), 256)
        self.assertEqual(table_of_box(2, ("a", "b", "c", "d"), ends, words),
                         table(Name("a") + Name("b") + Name("c") + Name("d"), 2))

    def test_400_rows(self):
        ends = (7, 4, 9)
        words = {row: 3 ** sum(row) for row in box_of(ends, 64)}
        self.assertEqual(len(words), 400)
        found = table_of_box(64, ("a", "b", "c"), ends, words)
        self.assertEqual([found.degree(name) for name in "abc"], [7, 4, 9])
        self.fails(BadEnds, (7, 4, 10), table_of_box, 64, ("a", "b", "c"), (7, 4, 10), words)
        self.fails(BadEnds, [12, 12, 2], table_of_box, 64, ("a", "b", "c"), [12, 12, 2], None)

    def test_more_words_do_not_matter(self):
        words = {(0,): 1, (1,): 2, (2,): None, "x": 3}
        self.assertEqual(table_of_box(8, ("x",), (1,), words), Table(8, ("x",), {(0,): 1, (1,): 1}))

    def test_bad_width_and_names(self):
        for width in not_widths():
            self.fails(BadWidth, width, table_of_box, width, None, None, None)
        for inputs in not_rows() + [("a", "b", "c", "d", "e")]:
            self.fails(BadName, inputs, table_of_box, 8, inputs, None, None)
        self.fails(BadName, "a", table_of_box, 8, ("b", "a"), None, None)
        self.fails(BadName, "in", table_of_box, 8, ("in", 3), None, None)

    def test_bad_ends(self):
        for ends in not_rows() + [(), (1, 2), [1, 2], [True], [None], [-1], [13], ["x"], ((1,),)]:
            self.fails(BadEnds, ends, table_of_box, 8, ("x",), ends, None)

    def test_bad_pick(self):
        for words in any_things():
            self.fails(BadPick, (0, 0), table_of_box, 8, ("x", "y"), (2, 2), words)
        for word in not_integers():
            words = {(0, 0): 1, (0, 1): 2, (1, 0): word, (1, 1): word}
            self.fails(BadPick, (1, 0), table_of_box, 8, ("x", "y"), (1, 1), words)
        # The order is that of the sums of the picks.
        words = {(0, 0): 1, (0, 1): 2, (1, 0): 4}
        self.fails(BadPick, (0, 2), table_of_box, 8, ("x", "y"), (2, 2), words)
        words[(0, 2)] = 1
        self.fails(BadPick, (1, 1), table_of_box, 8, ("x", "y"), (2, 2), words)
