"""Kinds, sizes, what a formula has, putting in, and calls: [2] to [7], and of [20] what it says of Call."""

from samewords.errors import BadBound, BadFormula, BadName, BadNumber, TooMany
from samewords.formulas import Call, Formula, Name, Number, Sum
from tests.helper import (CALL, WORDS, X, Y, Case, any_things, by_lot, formula_by_lot, inputs_of, not_formulas,
                          not_integers, not_names, slow_told)

N = Name("n")
I = Name("i")


def chain(deep):
    """A formula of just this depth, with as many parts."""
    found = X
    for _ in range(deep - 1):
        found = -found
    return found


def wide(parts):
    """A formula of this odd number of parts that is not deep."""
    row = [X] * ((parts + 1) // 2)
    while len(row) > 1:
        row = [row[at] + row[at + 1] if at + 1 < len(row) else row[at] for at in range(0, len(row), 2)]
    return row[0]


class Kinds(Case):
    def test_number(self):
        for n in (0, 1, 2 ** 64, 10 ** 30 - 1):
            self.assertEqual((Number(n).kind, Number(n).things), ("number", (n,)))
            self.assertIs(type(Number(n).things[0]), int)

    def test_number_wrong(self):
        for n in not_integers() + [-1, 10 ** 30, 10 ** 5000, -10 ** 30]:
            self.fails(BadNumber, n, Number, n)

    def test_name(self):
        for name in ("a", "z", "x", "abcdefgh", "zzzzzzzz", "widths", "i", "ins", "su", "sums", "lets", "elses"):
            self.assertEqual((Name(name).kind, Name(name).things), ("name", (name,)))

    def test_name_wrong(self):
        for name in not_names() + ["abcdefghi", "X", "x ", " x", "x1", "x_", "", "\n", "xy\n", "`", "{", "Sum"]:
            self.fails(BadName, name, Name, name)
        for name in WORDS:
            self.fails(BadName, name, Name, name)

    def test_operators(self):
        self.assertEqual(((X + Y).kind, (X + Y).things), ("plus", (X, Y)))
        self.assertEqual(((X - Y).kind, (X - Y).things), ("minus", (X, Y)))
        self.assertEqual(((X * Y).kind, (X * Y).things), ("times", (X, Y)))
        self.assertEqual(((-X).kind, (-X).things), ("negative", (X,)))
        self.assertEqual(((X << 5).kind, (X << 5).things), ("shift", (X, 5)))

    def test_operators_wrong(self):
        for thing in not_formulas():
            self.fails(BadFormula, thing, lambda other: X + other, thing)
            self.fails(BadFormula, thing, lambda other: X - other, thing)
            self.fails(BadFormula, thing, lambda other: X * other, thing)

    def test_shift(self):
        for k in (0, 1, 63, 64):
            self.assertEqual((X << k).things, (X, k))
        for k in not_integers() + [-1, 65, 10 ** 5000]:
            self.fails(BadNumber, k, lambda other: X << other, k)

    def test_sum(self):
        made = Sum("i", N, I * X)
        self.assertEqual((made.kind, made.things), ("sum", ("i", N, I * X)))
        self.assertEqual(Sum("i", Number(10 ** 30 - 1), X).things[1], Number(10 ** 30 - 1))

    def test_sum_wrong(self):
        for index in not_names():
            self.fails(BadName, index, Sum, index, 3, None)
        for below in not_formulas() + [X + Y, -X, X << 1, Sum("j", N, X), CALL, Name("i")]:
            self.fails(BadBound, below, Sum, "i", below, None)
        for body in not_formulas():
            self.fails(BadFormula, body, Sum, "i", N, body)

    def test_sum_within_with_the_same_index(self):
        inner = Sum("i", Number(3), I)
        for body in (inner, X + inner, -(inner << 2), Sum("j", N, inner), Call("f", [X, inner])):
            self.fails(BadName, "i", Sum, "i", N, body)
        self.assertEqual(Sum("k", N, inner).kind, "sum")
        # The bound of a sum may be called like the index of one in its body.
        self.assertEqual(Sum("j", I, inner).input_names(), ["i"])

    def test_call(self):
        made = Call("f", [X, Y + X])
        self.assertEqual((made.kind, made.things), ("call", ("f", (X, Y + X))))
        self.assertEqual(Call("abcdefgh", (X,) * 4).things, ("abcdefgh", (X,) * 4))

    def test_call_wrong(self):
        for name in not_names():
            self.fails(BadName, name, Call, name, None)
        for things in [None, True, 3, "x", "xyzx", {}, {"x": X}, X, (), [], (X,) * 5, [X] * 5, [None] * 5]:
            self.fails(BadFormula, things, Call, "f", things)
        for thing in not_formulas():
            self.fails(BadFormula, thing, Call, "f", [X, thing, None])
            self.fails(BadFormula, thing, Call, "f", (thing,))

    def test_call_copies_its_things(self):
        things = [X, Y]
        made = Call("f", things)
        things[0] = Number(3)
        things.append(X)
        self.assertEqual(made, Call("f", (X, Y)))
        self.assertEqual(made.parts, 3)

    def test_calls_count_like_others(self):
        self.assertEqual((X + CALL).things, (X, CALL))
        self.assertEqual((-CALL << 3).kind, "shift")
        self.assertEqual(Sum("i", N, CALL * I).things[2], CALL * I)
        self.assertEqual(Call("g", [CALL]).things, ("g", (CALL,)))


class Sizes(Case):
    def test_parts_and_depth(self):
        for formula, parts, depth in (
                (Number(3), 1, 1), (X, 1, 1), (X + Y, 3, 2), (X - Y, 3, 2), (X * (Y + X), 5, 3), (-X, 2, 2),
                (X << 3, 2, 2), (Sum("i", N, I), 2, 2), (Sum("i", Number(5), I * X), 4, 3), (CALL, 2, 2),
                (Call("f", (X, -Y, X + Y)), 7, 3), (Sum("i", N, Sum("j", I, -X)), 4, 4)):
            self.assertEqual((formula.parts, formula.depth), (parts, depth))

    def test_300_parts(self):
        self.assertEqual(wide(299).parts, 299)
        self.assertEqual((-wide(299)).parts, 300)
        self.fails(TooMany, None, lambda one: --one, wide(299))
        self.fails(TooMany, None, lambda one, other: one + other, wide(151), wide(149))
        self.assertEqual((wide(149) + -wide(149)).parts, 300)
        self.assertEqual((wide(299) << 1).parts, 300)
        self.assertEqual(Sum("i", N, wide(299)).parts, 300)
        self.assertEqual(Call("f", [wide(149), -wide(149)]).parts, 300)

    def test_more_than_300_parts(self):
        most = -wide(299)
        for make in (lambda: most + X, lambda: most - X, lambda: most * X, lambda: -most, lambda: most << 0,
                     lambda: Sum("i", N, most), lambda: Call("f", [most]), lambda: Call("f", [wide(149), wide(151)])):
            self.fails(TooMany, None, make)

    def test_depth_40(self):
        most = chain(40)
        self.assertEqual((most.depth, most.parts), (40, 40))
        self.assertEqual((chain(39) + X).depth, 40)
        self.assertEqual(Sum("i", N, chain(39)).depth, 40)
        self.assertEqual(Call("f", [X, chain(39)]).depth, 40)
        for make in (lambda: most + X, lambda: X - most, lambda: X * most, lambda: -most, lambda: most << 0,
                     lambda: Sum("i", N, most), lambda: Call("f", [X, most])):
            self.fails(TooMany, None, make)

    def test_other_errors_go_ahead(self):
        most = chain(40)
        self.fails(BadFormula, 3, lambda: most + 3)
        self.fails(BadNumber, 65, lambda: most << 65)
        self.fails(BadName, "sum", Sum, "sum", N, most)
        self.fails(BadBound, X + X, Sum, "i", X + X, most)
        inner = Sum("i", N, chain(39))
        self.fails(BadName, "i", Sum, "i", N, inner)
        self.fails(BadFormula, None, Call, "f", [most, None])
        self.fails(BadName, "in", Call, "in", [most])


class WhatItHas(Case):
    def test_input_names(self):
        for formula, names in (
                (Number(3), []), (X, ["x"]), (Y + X * Y, ["x", "y"]), (-X << 2, ["x"]),
                (Sum("i", N, I), ["n"]), (Sum("i", N, I) + I, ["i", "n"]), (Sum("i", Number(4), X), ["x"]),
                (Sum("i", N, Sum("j", I, Name("j") + X)), ["n", "x"]), (Call("f", [Y, X, I]), ["i", "x", "y"]),
                (Sum("i", N, CALL + I), ["n", "x"]), (Sum("i", Name("j"), Sum("j", N, Name("j"))), ["j", "n"])):
            self.assertEqual(formula.input_names(), names)

    def test_bound_names(self):
        for formula, names in (
                (X, []), (Sum("i", N, I), ["n"]), (Sum("i", Number(4), X), []),
                (Sum("i", N, Sum("j", I, X)), ["n"]), (Sum("i", N, X) + Sum("j", I, X), ["i", "n"]),
                (Call("f", [Sum("i", Y, I), Sum("i", N, I), Y]), ["n", "y"]),
                (Sum("i", Number(2), Sum("j", X, Sum("k", I, Name("j")))), ["x"])):
            self.assertEqual(formula.bound_names(), names)

    def test_lists_are_new(self):
        formula = Sum("i", N, I * X) + Y
        self.fresh(formula.input_names)
        self.fresh(formula.bound_names)

    def test_equal(self):
        lot = by_lot(6)
        made = [formula_by_lot(lot, ["x", "y"], 3, ["x"]) for _ in range(60)]
        for one in made:
            for other in made:
                self.assertEqual(one == other, shown(one) == shown(other))
                self.assertEqual(one != other, shown(one) != shown(other))

    def test_unlike(self):
        for one, other in ((X, Y), (X, Number(3)), (X + Y, Y + X), (X + Y, X - Y), (X << 1, X << 2), (X << 0, X),
                           (-X, X), (CALL, Call("g", [X])), (CALL, Call("f", [X, X])),
                           (Sum("i", N, X), Sum("j", N, X)), (Sum("i", N, X), Sum("i", X, X)),
                           (Number(1), Number(257)), (Number(0), Number(1))):
            self.assertFalse(one == other)
            self.assertTrue(one != other)
        self.assertEqual(Call("f", [X, Y]), Call("f", (X, Y)))

    def test_equal_to_nothing_else(self):
        for thing in not_formulas() + [("name", ("x",)), ("x",)]:
            self.assertFalse(X == thing)
            self.assertTrue(X != thing)
            self.assertFalse(Number(3) == thing)

    def test_attributes_are_set(self):
        for formula in (X, Number(2), X + Y, -X, X << 1, Sum("i", N, X), CALL):
            self.assertIsInstance(formula, Formula)
            self.assertIsInstance(formula.things, tuple)
            for name in ("kind", "things", "parts", "depth"):
                self.assertIn(name, vars(formula))
        for name in ("input_names", "bound_names", "with_input", "__add__", "__sub__", "__mul__", "__lshift__",
                     "__neg__", "__eq__"):
            self.assertIn(name, vars(Formula))


def shown(formula):
    """A text that tells kind and things, for comparing by another way."""
    if isinstance(formula, Formula):
        return formula.kind + shown(formula.things)
    if isinstance(formula, tuple):
        return "(" + ",".join(shown(thing) for thing in formula) + ")"
    return repr(formula)


class PuttingIn(Case):
    def test_ordinary(self):
        self.assertEqual((X + Y * X).with_input("x", Number(3)), Number(3) + Y * Number(3))
        self.assertEqual((X - Y).with_input("x", X + Y), X + Y - Y)
        self.assertEqual((-X << 2).with_input("x", Y), -Y << 2)
        self.assertEqual(Sum("i", N, I * X).with_input("x", Y * Y), Sum("i", N, I * (Y * Y)))
        self.assertEqual(Sum("i", N, I * N).with_input("n", Y), Sum("i", Y, I * Y))
        self.assertEqual(Sum("i", N, I).with_input("n", Number(7)), Sum("i", Number(7), I))
        self.assertEqual(Call("f", [X, Y]).with_input("x", CALL), Call("f", [CALL, Y]))
        self.assertEqual(X.with_input("x", X), X)

    def test_without_the_input_it_is_equal(self):
        for formula in (X, X + X, Sum("y", N, Y), Sum("i", Number(3), I * X), CALL, Number(3)):
            self.assertEqual(formula.with_input("y", Sum("i", N, I)), formula)

    def test_indexes_are_no_inputs(self):
        formula = Sum("i", N, I) + I
        self.assertEqual(formula.with_input("i", Number(5)), Sum("i", N, I) + Number(5))
        hidden = Sum("i", Name("j"), Sum("j", Number(3), Name("j")) + Name("j"))
        self.assertEqual(hidden.with_input("j", Number(5)),
                         Sum("i", Number(5), Sum("j", Number(3), Name("j")) + Number(5)))

    def test_bad_name(self):
        for name in not_names():
            self.fails(BadName, name, X.with_input, name, None)

    def test_bad_formula(self):
        for other in not_formulas():
            self.fails(BadFormula, other, Sum("i", X, I).with_input, "x", other)
            self.fails(BadFormula, other, X.with_input, "y", other)

    def test_bad_bound(self):
        formula = Sum("i", N, I * X)
        for other in (X + Y, -X, X << 0, Sum("i", N, I), CALL):
            self.fails(BadBound, other, formula.with_input, "n", other)
            self.assertEqual(formula.with_input("y", other), formula)
        # The name bounds a sum elsewhere: that is enough.
        self.fails(BadBound, -X, (N + formula).with_input, "n", -X)
        # An index that bounds a sum is no input.
        self.assertEqual(Sum("j", X, Sum("k", Name("j"), Y)).with_input("j", -X), Sum("j", X, Sum("k", Name("j"), Y)))

    def test_clashing_index(self):
        self.fails(BadName, "i", Sum("i", N, I * X).with_input, "x", I + Y)
        self.fails(BadName, "i", Sum("i", N, I * X).with_input, "x", Sum("i", N, I))
        self.fails(BadName, "i", Sum("i", N, I * X).with_input, "x", Call("f", [Sum("i", N, I)]))
        self.fails(BadName, "i", Sum("i", N, X).with_input, "n", I)
        two = Sum("j", Number(2), Sum("i", Number(3), X))
        self.fails(BadName, "i", two.with_input, "x", Name("j") * I)
        self.fails(BadName, "j", two.with_input, "x", Name("j") * Y)
        self.fails(BadName, "i", (Sum("k", N, X) + Sum("i", N, X)).with_input, "x", Name("k") * I)

    def test_no_clash(self):
        # Only sums that have the input in their body or as their bound count.
        formula = Sum("i", N, I) + X
        self.assertEqual(formula.with_input("x", I), Sum("i", N, I) + I)
        self.assertEqual(formula.with_input("x", Sum("i", N, -I)), Sum("i", N, I) + Sum("i", N, -I))
        self.assertEqual((Sum("i", N, X)).with_input("x", Sum("j", N, Name("j"))),
                         Sum("i", N, Sum("j", N, Name("j"))))
        hidden = Sum("i", N, Sum("x", N, X))
        self.assertEqual(hidden.with_input("x", I), hidden)

    def test_too_many(self):
        self.fails(TooMany, None, wide(151).with_input, "x", X + Y)
        self.assertEqual((wide(149) + Y).with_input("y", wide(149)).parts, 299)
        self.fails(TooMany, None, (X + chain(39)).with_input, "x", -X)
        self.assertEqual(chain(21).with_input("x", chain(20)).depth, 40)

    def test_order_of_errors(self):
        formula = Sum("i", X, I * X)
        self.fails(BadName, "sum", formula.with_input, "sum", 3)
        self.fails(BadFormula, 3, formula.with_input, "x", 3)
        self.fails(BadBound, I + I, formula.with_input, "x", I + I)
        self.fails(BadName, "i", Sum("i", Number(3), wide(201)).with_input, "x", I + wide(3))

    def test_meaning_of_putting_in(self):
        lot = by_lot(7)
        done = 0
        while done < 80:
            formula = formula_by_lot(lot, ["x", "y"], 4, ["y"])
            other = formula_by_lot(lot, ["y", "z"], 2, [], "")
            put = formula.with_input("x", other)
            for values in inputs_of(["x", "y", "z"], 2):
                word = slow_told(other, 2, values)[0]
                self.assertEqual(slow_told(put, 2, values)[0], slow_told(formula, 2, {**values, "x": word})[0])
            done += 1

    def test_it_stays_as_it_was(self):
        formula = Sum("i", N, I * X) + X
        before = shown(formula)
        formula.with_input("x", Y)
        for thing in any_things():
            try:
                formula.with_input("x", thing)
            except ValueError:
                pass
        self.assertEqual(shown(formula), before)
