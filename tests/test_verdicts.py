"""Alike, last bits, one input: [16], [17] and [19]."""

from samewords.errors import BadFormula, BadName, BadWidth, TooMany
from samewords.formulas import Name, Number, Sum
from samewords.meaning import is_small, told
from samewords.verdicts import alike, apart, constant, hangs, is_swing, same_bits, swing
from tests.helper import (X, Y, Case, any_things, big_power, by_lot, formula_by_lot, inputs_of, not_callless,
                          not_names, not_widths, product_of, slow_told)

N = Name("n")
I = Name("i")
ONE = Number(1)


def pairs_by_lot(seed, many, names=("x", "y"), bounds=("x",)):
    """Pairs of small formulas, some of them alike."""
    lot = by_lot(seed)
    found = []
    while len(found) < many:
        one = formula_by_lot(lot, list(names), 3, list(bounds))
        other = one + formula_by_lot(lot, list(names), 2, []) - formula_by_lot(lot, list(names), 2, []) \
            if lot.randrange(2) else formula_by_lot(lot, list(names), 3, list(bounds))
        if is_small(one - other):
            found.append((one, other))
    return found


def names_of(one, other):
    return sorted(set(one.input_names() + other.input_names()))


class Alike(Case):
    def test_ordinary(self):
        self.assertIs(alike((X + Y) * (X - Y), X * X - Y * Y, 64), True)
        self.assertIs(alike(X * X, X, 1), True)
        self.assertIs(alike(X * X, X, 2), False)
        self.assertIs(alike(Sum("i", N, I) << 1, N * N - N, 64), True)
        self.assertIs(alike(Sum("i", N, I), Number(0), 1), True)
        self.assertIs(alike(X - X, Y - Y, 8), True)
        self.assertIs(alike(X << 8, Number(256), 8), True)
        self.assertIsNone(apart(X << 8, Number(256), 8))
        self.assertEqual(apart(X, Y, 8), {"x": 0, "y": 1})
        self.assertEqual(apart(X * Y, Number(0), 8), {"x": 1, "y": 1})
        self.assertEqual(apart(X + (Y - Y), Number(1), 8), {"x": 0, "y": 0})
        self.assertEqual(apart(X * X + (Y << 64), X, 64), {"x": 2, "y": 0})
        self.assertEqual(apart(Sum("i", N, I), Number(0), 2), {"n": 2})

    def test_by_lot(self):
        for one, other in pairs_by_lot(41, 100):
            names = names_of(one, other)
            for width in (1, 2, 3):
                unlike = [values for values in inputs_of(names, width)
                          if slow_told(one, width, values)[0] != slow_told(other, width, values)[0]]
                self.assertIs(alike(one, other, width), not unlike)
                least = min(unlike, key=lambda values: (sum(values.values()), [values[name] for name in names]),
                            default=None)
                self.assertEqual(apart(one, other, width), least)

    def test_same_bits(self):
        for one, other, width, bits in (
                (X, X, 8, 8), (X, X + ONE, 8, 0), (X, X + Number(2), 8, 1), (X, X + Number(128), 8, 7),
                (X * X, X, 8, 1), (X * X, X, 1, 1), (X << 3, Y << 4, 8, 3), (X << 64, Number(0), 64, 64),
                (X, X + Number(2 ** 63), 64, 63), (Sum("i", N, I), Number(0), 8, 0)):
            self.assertEqual(same_bits(one, other, width), bits)

    def test_same_bits_by_lot(self):
        for one, other in pairs_by_lot(42, 100):
            names = names_of(one, other)
            for width in (1, 2, 3):
                differences = [slow_told(one, width, values)[0] - slow_told(other, width, values)[0]
                               for values in inputs_of(names, width)]
                bits = max(j for j in range(width + 1) if all(word % 2 ** j == 0 for word in differences))
                self.assertEqual(same_bits(one, other, width), bits)

    def test_width_64(self):
        for one, other in pairs_by_lot(43, 60):
            if is_small(one - other):
                values = apart(one, other, 64)
                if values is None:
                    self.assertEqual(same_bits(one, other, 64), 64)
                else:
                    self.assertNotEqual(told(one, 64, values), told(other, 64, values))
                    self.assertEqual(list(values), names_of(one, other))

    def test_wrong(self):
        far = big_power("x", 13)
        for function in (alike, apart, same_bits):
            for thing in not_callless():
                self.fails(BadFormula, thing, function, thing, None, None)
                self.fails(BadFormula, thing, function, far, thing, None)
            for width in not_widths():
                self.fails(BadWidth, width, function, far, far, width)
            self.fails(TooMany, None, function, far, far, 1)
            self.fails(TooMany, None, function, X, far, 64)

    def test_small_together(self):
        abcd = Name("a") + Name("b") + Name("c") + Name("d")
        for function in (alike, apart, same_bits):
            function(big_power("x", 12), X, 64)
            function(product_of({"a": 4, "b": 4, "c": 3}), big_power("d", 3), 64)
            self.fails(TooMany, None, function, product_of({"a": 4, "b": 4, "c": 3}), big_power("d", 4), 64)
            self.fails(TooMany, None, function, product_of({"a": 12, "b": 12}), product_of({"c": 2}), 64)
            function(abcd, abcd, 64)
            self.fails(TooMany, None, function, abcd, Name("e"), 64)
            self.fails(TooMany, None, function, Number(3), Sum("i", Number(2), big_power("i", 13)), 64)
            self.fails(TooMany, None, function, Sum("i", Number(2), product_of({"a": 4, "b": 4, "c": 4, "i": 4})), ONE, 8)

    def test_the_size_of_the_difference_does_not_count(self):
        row = [X] * 150
        while len(row) > 1:
            row = [row[at] + row[at + 1] if at + 1 < len(row) else row[at] for at in range(0, len(row), 2)]
        self.assertIs(alike(row[0], X * Number(150), 64), True)
        self.assertIs(alike(row[0], row[0], 64), True)
        deep = X
        for _ in range(39):
            deep = -deep
        self.assertEqual(apart(deep, -X, 8), None)

    def test_new_dict(self):
        self.fresh(lambda: apart(X, Y, 8))


class OneInput(Case):
    def test_hangs(self):
        for formula, name, width, found in (
                (X, "x", 8, True), (X, "y", 8, False), (X - X, "x", 8, False), (X << 8, "x", 8, False),
                (X << 8, "x", 9, True), (Sum("i", N, I), "n", 1, False), (Sum("i", N, I), "i", 8, False),
                (Sum("i", N, I), "n", 2, True), (X * Y, "y", 1, True), (X * (X - ONE), "x", 1, False)):
            self.assertIs(hangs(formula, name, width), found)
            self.assertEqual(swing(formula, name, width) is not None, found)

    def test_by_lot(self):
        lot = by_lot(44)
        done = 0
        while done < 80:
            formula = formula_by_lot(lot, ["x", "y"], 3, ["x"])
            if not is_small(formula):
                continue
            done += 1
            names = formula.input_names()
            for width in (1, 2):
                inputs = inputs_of(names, width)
                words = {tuple(values.values()): slow_told(formula, width, values)[0] for values in inputs}
                self.assertEqual(constant(formula, width), words[tuple(inputs[0].values())]
                                 if len(set(words.values())) == 1 else None)
                for name in ("x", "y", "i"):
                    shown = [(one, other) for one in inputs for other in inputs
                             if all(one[key] == other[key] for key in names if key != name)
                             and words[tuple(one.values())] != words[tuple(other.values())]] if name in names else []
                    self.assertIs(hangs(formula, name, width), bool(shown))
                    found = swing(formula, name, width)
                    self.assertEqual(found in shown, bool(shown))
                    self.assertIs(is_swing(formula, name, width, found), bool(shown))
                    for one in inputs:
                        for other in inputs:
                            self.assertIs(is_swing(formula, name, width, (one, other)), (one, other) in shown)

    def test_swing_has_all_inputs(self):
        formula = X * Y + (Name("z") - Name("z"))
        found = swing(formula, "y", 64)
        self.assertIsInstance(found, tuple)
        self.assertEqual([sorted(values) for values in found], [["x", "y", "z"]] * 2)
        self.assertIs(is_swing(formula, "y", 64, found), True)
        self.assertIs(is_swing(formula, "x", 64, found), False)
        found[0].clear()
        self.assertEqual(len(swing(formula, "y", 64)[0]), 3)

    def test_is_swing_judges(self):
        good = ({"x": 1, "y": 3}, {"x": 1, "y": 255})
        formula = X * Y
        self.assertIs(is_swing(formula, "y", 8, good), True)
        self.assertIs(is_swing(formula, "y", 8, good[::-1]), True)
        for thing in any_things() + [list(good), good + good, good[:1], ({"x": 1, "y": 3},) * 2, (good[0], None),
                                     ({"x": 0, "y": 3}, {"x": 0, "y": 4}), ({"x": 1, "y": 3}, {"x": 2, "y": 4}),
                                     ({"x": 1, "y": 3}, {"x": 1}), ({"x": 1, "y": 3}, {"x": 1, "y": 4, "z": 0}),
                                     ({"x": 1, "y": 3, "z": 1}, {"x": 1, "y": 4, "z": 1}),
                                     ({"x": True, "y": 3}, {"x": 1, "y": 4}), ({"x": 1, "y": 0}, {"x": 1, "y": True}),
                                     ({"x": 1, "y": 3}, {"x": 1, "y": 256}), ({"x": 1, "y": -1}, {"x": 1, "y": 3}),
                                     ({"x": 1, "y": None}, {"x": 1, "y": 3}), ({"x": 1, 5: 2}, {"x": 1, 5: 3}),
                                     (("x", "y"), ("x", "z")), tuple([good[0]] * 10 ** 5), 10 ** 5000]:
            self.assertIs(is_swing(formula, "y", 8, thing), False)
        self.assertIs(is_swing(formula, "z", 8, good), False)
        self.assertIs(is_swing(X, "y", 8, ({"x": 1}, {"x": 2})), False)
        self.assertIs(is_swing(X, "y", 8, ({"x": 1, "y": 1}, {"x": 1, "y": 2})), False)

    def test_great_inputs(self):
        formula = Sum("i", N, I)
        self.assertIs(is_swing(formula, "n", 64, ({"n": 2 ** 64 - 1}, {"n": 2 ** 63})), True)
        self.assertIs(is_swing(formula, "n", 64, ({"n": 2 ** 64}, {"n": 2 ** 63})), False)

    def test_constant(self):
        for formula, width, word in (
                (Number(300), 8, 44), (X, 8, None), (X - X, 8, 0), (X << 8, 8, 0), (X * X - X, 1, 0),
                (Sum("i", Number(10), I), 64, 45), (Sum("i", N, I) + Number(1), 1, 1), (X - X + Number(7), 64, 7)):
            self.assertEqual(constant(formula, width), word)

    def test_wrong(self):
        far = big_power("x", 13)
        judge = lambda formula, name, width: is_swing(formula, name, width, None)
        for function in (hangs, swing, judge):
            for thing in not_callless():
                self.fails(BadFormula, thing, function, thing, None, None)
            for name in not_names():
                self.fails(BadName, name, function, far, name, None)
            for width in not_widths():
                self.fails(BadWidth, width, function, far, "x", width)
            self.fails(TooMany, None, function, far, "x", 1)
            self.fails(TooMany, None, function, far, "y", 1)
        for thing in not_callless():
            self.fails(BadFormula, thing, constant, thing, None)
        for width in not_widths():
            self.fails(BadWidth, width, constant, far, width)
        self.fails(TooMany, None, constant, far, 1)
