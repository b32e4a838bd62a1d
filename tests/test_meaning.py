"""The word, the turns and the degrees of a formula: [8] and [9], and widths: [3]."""

from samewords.errors import BadFormula, BadValue, BadWidth, TooLong
from samewords.formulas import Call, Name, Number, Sum
from samewords.meaning import degrees, is_small, told, turns
from tests.helper import (CALL, X, Y, Case, any_things, big_power, by_lot, formula_by_lot, inputs_of, not_callless,
                          not_formulas, not_widths, product_of, slow_told)

N = Name("n")
I = Name("i")
J = Name("j")
MOST = 2 ** 64 - 1


class Told(Case):
    def test_ordinary(self):
        values = {"x": 200, "y": 100, "n": 4}
        for formula, word in ((Number(10 ** 30 - 1), (10 ** 30 - 1) % 256), (X, 200), (X + Y, 44), (Y - X, 156),
                              (X * Y, 20000 % 256), (-Y, 156), (X << 2, 32), (X << 64, 0), (Y << 0, 100),
                              (Sum("i", N, I), 6), (Sum("i", N, I * X), 1200 % 256), (Sum("i", Number(3), Number(5)), 15),
                              (Sum("i", N, Sum("j", I, J + X)), 4 + 6 * 200 - 1024)):
            self.assertEqual(told(formula, 8, values), word % 256)

    def test_widths_1_and_64(self):
        self.assertEqual(told(X + Y, 1, {"x": 1, "y": 1}), 0)
        self.assertEqual(told(X * Y, 64, {"x": MOST, "y": MOST}), 1)
        self.assertEqual(told(-X, 64, {"x": 1}), MOST)
        self.assertEqual(told(X << 63, 64, {"x": 3}), 2 ** 63)
        self.assertEqual(told(X << 64, 64, {"x": 3}), 0)
        self.assertEqual(told(Number(2 ** 64 + 5), 64, None), 5)

    def test_by_lot(self):
        lot = by_lot(8)
        for _ in range(150):
            formula = formula_by_lot(lot, ["x", "y"], 4, ["x", "y"])
            for width in (1, 2, 3, 5):
                values = {name: lot.randrange(min(2 ** width, 6)) for name in ("x", "y")}
                word, done = slow_told(formula, width, values)
                self.assertEqual(told(formula, width, values), word)
                self.assertEqual(turns(formula, width, values), done)

    def test_index_hides_an_input(self):
        hidden = Sum("i", J, Sum("j", Number(3), J) + J)
        self.assertEqual(told(hidden, 8, {"j": 2}), 2 * (3 + 2))
        self.assertEqual(told(Sum("i", N, I) + I, 8, {"n": 3, "i": 50}), 53)

    def test_turns(self):
        values = {"n": 5, "x": 3}
        for formula, done in ((X, 0), (Sum("i", N, I), 5), (Sum("i", Number(0), I), 0), (Sum("i", N, Sum("j", X, J)), 20),
                              (Sum("i", N, Sum("j", I, J)), 15), (Sum("i", N, I) * Sum("i", X, I), 8),
                              (Number(0) * Sum("i", N, I), 5), (Sum("i", Number(258), X), 2),
                              (Sum("i", Number(0), Sum("j", Number(200), J)), 0)):
            self.assertEqual(turns(formula, 8, values), done)

    def test_20000_turns(self):
        values = {"n": 20000, "x": 100, "y": 199, "z": 200}
        self.assertEqual(told(Sum("i", N, I), 64, values), 20000 * 19999 // 2)
        self.assertEqual(turns(Sum("i", N, I), 64, values), 20000)
        nested = Sum("i", X, Sum("j", Y, I * J))
        self.assertEqual(turns(nested, 64, values), 20000)
        self.assertEqual(told(nested, 64, values), slow_told(nested, 64, values)[0])
        two = Sum("i", Number(10000), I) + Sum("i", Number(10000), X)
        self.assertEqual(turns(two, 64, values), 20000)

    def test_one_turn_more(self):
        values = {"n": 20001, "x": 100, "y": 199, "z": 200}
        for formula in (Sum("i", N, I), Sum("i", X, Sum("j", Name("z"), J)), Sum("i", X, Sum("j", Y, I)) + Sum("i", Number(1), I),
                        Sum("i", Number(10000), I) - Sum("i", Number(10001), I), Sum("i", Number(10 ** 29), X),
                        Sum("i", Number(2), Sum("j", Number(2 ** 63), J)),
                        Sum("i", Number(2 ** 63), Sum("j", I, J)), Sum("i", Number(20001), Sum("j", Number(0), J)),
                        Number(0) * Sum("i", N, Number(0))):
            self.fails(TooLong, None, told, formula, 64, values)
            self.fails(TooLong, None, turns, formula, 64, values)

    def test_many_parts_and_turns(self):
        body = I
        for _ in range(6):
            body = body * body + I
        formula = Sum("i", Number(20000), body)
        modulus = 2 ** 64
        total = 0
        for i in range(20000):
            word = i
            for _ in range(6):
                word = (word * word + i) % modulus
            total += word
        self.assertEqual(told(formula, 64, {}), total % modulus)

    def test_bound_counts_modulo(self):
        self.assertEqual(turns(Sum("i", Number(2 ** 64 + 3), I), 64, {}), 3)
        self.assertEqual(told(Sum("i", Number(11), Number(1)), 3, {}), 3)

    def test_bad_formula(self):
        for function in (told, turns):
            for formula in not_callless():
                self.fails(BadFormula, formula, function, formula, None, None)

    def test_bad_width(self):
        for function in (told, turns):
            for width in not_widths() + [0, 65, -1]:
                self.fails(BadWidth, width, function, X, width, None)

    def test_bad_value(self):
        formula = Y + X * Name("b")
        for function in (told, turns):
            for values in any_things():
                self.fails(BadValue, "b", function, formula, 8, values)
            for wrong in [thing for thing in any_things() if thing not in (0, 1, 65) or isinstance(thing, bool)] + [256]:
                self.fails(BadValue, "x", function, formula, 8, {"b": 3, "x": wrong, "y": wrong})
                self.fails(BadValue, "y", function, formula, 8, {"b": 3, "x": 255, "y": wrong})
            self.fails(BadValue, "x", function, formula, 8, {"b": 0, "y": 0})
            self.fails(BadValue, "n", function, Sum("i", N, X), 8, {"x": 3})
            self.fails(BadValue, "x", function, X, 1, {"x": 2})

    def test_values_of_other_names_do_not_matter(self):
        self.assertEqual(told(X, 8, {"x": 3, "y": None, 5: "a", "i": -1}), 3)
        self.assertEqual(told(Sum("i", Number(3), I), 8, {"i": None}), 3)

    def test_without_inputs_values_are_not_looked_at(self):
        for values in any_things():
            self.assertEqual(told(Number(7), 8, values), 7)
            self.assertEqual(turns(Sum("i", Number(3), I), 8, values), 3)

    def test_values_stay_as_they_were(self):
        values = {"x": 3, "n": 4, "more": [1]}
        told(Sum("i", N, I * X), 8, values)
        turns(Sum("i", N, I * X), 8, values)
        self.assertEqual(values, {"x": 3, "n": 4, "more": [1]})


class Degrees(Case):
    def test_ordinary(self):
        for formula, found in (
                (Number(3), {}), (X, {"x": 1}), (X + Y, {"x": 1, "y": 1}), (X * X - Y, {"x": 2, "y": 1}),
                (X * Y * X, {"x": 2, "y": 1}), (-(X * X), {"x": 2}), (X * X << 64, {"x": 2}),
                (X - X, {"x": 1}), (Number(0) * X, {"x": 1}),
                (Sum("i", N, I), {"n": 2}), (Sum("i", N, X), {"n": 1, "x": 1}), (Sum("i", Number(9), I * X), {"x": 1}),
                (Sum("i", N, I * I * N), {"n": 4}), (Sum("i", N, Sum("j", I, J)), {"n": 3}),
                (Sum("i", N, Sum("j", N, J * I)), {"n": 4}), (Sum("i", Number(3), Sum("j", I, J * X)), {"x": 1}),
                (Sum("i", J, Sum("j", Number(3), J * J)), {"j": 1}), (Sum("i", N, I) * I, {"i": 1, "n": 2})):
            self.assertEqual(degrees(formula), found)

    def test_keys_are_the_inputs(self):
        lot = by_lot(9)
        for _ in range(100):
            formula = formula_by_lot(lot, ["x", "y", "z"], 4, ["x", "z"])
            self.assertEqual(sorted(degrees(formula)), formula.input_names())
            self.assertTrue(all(degree >= 1 for degree in degrees(formula).values()))

    def test_wrong(self):
        for formula in not_callless():
            self.fails(BadFormula, formula, degrees, formula)

    def test_new_dict(self):
        self.fresh(lambda: degrees(X * X + Y))
        self.fresh(lambda: degrees(X))


class Small(Case):
    def test_degrees_12_and_13(self):
        self.assertIs(is_small(big_power("x", 12)), True)
        self.assertIs(is_small(big_power("x", 13)), False)
        self.assertIs(is_small(Sum("i", N, big_power("i", 11))), True)
        self.assertIs(is_small(Sum("i", N, big_power("i", 12))), False)
        self.assertIs(is_small(Sum("i", Number(3), big_power("i", 12))), True)
        self.assertIs(is_small(Sum("i", Number(3), big_power("i", 13))), False)
        self.assertIs(is_small(X - X + big_power("x", 13) - big_power("x", 13)), False)

    def test_products_of_400(self):
        self.assertIs(is_small(product_of({"a": 4, "b": 4, "c": 3, "d": 3})), True)
        self.assertIs(is_small(product_of({"a": 4, "b": 4, "c": 3, "d": 4})), False)
        self.assertIs(is_small(product_of({"a": 7, "b": 6, "c": 6})), True)
        self.assertIs(is_small(product_of({"a": 7, "b": 7, "c": 6})), False)
        self.assertIs(is_small(product_of({"a": 12, "b": 12, "c": 1})), True)
        self.assertIs(is_small(product_of({"a": 12, "b": 12, "c": 2})), False)

    def test_inputs(self):
        four = Name("a") + Name("b") + Name("c") + Name("d")
        self.assertIs(is_small(four), True)
        self.assertIs(is_small(four + Name("e")), False)

    def test_bodies(self):
        # The index is an input of the body.
        body = I * Name("a") * Name("b") * Name("c")
        self.assertIs(is_small(Sum("i", Name("a"), body)), True)
        self.assertIs(is_small(Sum("i", Name("a"), body * Name("d"))), False)
        self.assertIs(is_small(Sum("i", Number(2), body * Name("d"))), False)
        self.assertIs(is_small(Name("a") * Name("b") * Name("c") * Name("d")), True)
        inner = Sum("j", Number(3), big_power("j", 13))
        self.assertIs(is_small(Sum("i", Number(3), inner)), False)
        self.assertIs(is_small(X + -(inner << 1)), False)
        self.assertIs(is_small(Sum("i", Number(3), product_of({"i": 4, "x": 4, "y": 4, "z": 4}))), False)
        self.assertIs(is_small(Sum("i", Number(3), product_of({"i": 3, "x": 4, "y": 4, "z": 3}))), True)

    def test_any_value(self):
        for thing in not_formulas() + [CALL, X + CALL, Sum("i", N, CALL), [X] * 10 ** 6, "x" * 10 ** 6]:
            self.assertIs(is_small(thing), False)
        for thing in (X, Number(3), Sum("i", N, I)):
            self.assertIs(is_small(thing), True)
