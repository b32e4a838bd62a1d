"""Plain programs and whether two of them are alike: [24] and [25]."""

from samewords.errors import BadProgram, NotPlain, TooMany
from samewords.formulas import Call, Name, Number, Sum
from samewords.plain import is_programs_apart, program_degrees, programs_alike, programs_apart, tables
from samewords.programs import Choice, Program
from samewords.tables import Table
from tests.helper import (X, Y, Case, any_things, big_power, by_lot, inputs_of, large_things, not_programs,
                          plain_by_lot, product_of, slow_degree, slow_run, slow_words)

N = Name("n")
I = Name("i")
P = Name("p")
A = Name("a")
B = Name("b")
DEFS = [("power", ("p",), big_power("p", 4)), ("upto", ("p", "q"), Sum("i", P, I * Name("q")))]
BIG = P
for _ in range(7):
    BIG = BIG + BIG


def program(lets, outs=("x",), inputs=("x", "n"), width=8, defs=DEFS):
    return Program(width, inputs, defs, lets, outs)


def too_large():
    """A plain program whose calls cannot be laid in."""
    return program([("a", Call("big", [X + X]))], defs=[("big", ("p",), BIG)])


class Degrees(Case):
    def degrees(self, lets, **parts):
        return program_degrees(program(lets, **parts))

    def test_ordinary(self):
        lets = [("a", X * X + N), ("b", A * A - Number(3)), ("c", Sum("j", N, Name("j") * A)), ("d", Number(3) << 2),
                ("e", Name("d") * A), ("f", Sum("j", Number(9), B)), ("g", A - A), ("h", -Name("c"))]
        self.assertEqual(self.degrees(lets), {
            "a": {"x": 2, "n": 1}, "b": {"x": 4, "n": 2}, "c": {"x": 2, "n": 3}, "d": {}, "e": {"x": 2, "n": 1},
            "f": {"x": 4, "n": 2}, "g": {"x": 2, "n": 1}, "h": {"x": 2, "n": 3}})
        self.assertEqual(list(self.degrees(lets)), ["a", "b", "c", "d", "e", "f", "g", "h"])
        self.assertEqual(self.degrees([], width=1), {})

    def test_calls(self):
        lets = [("a", Call("power", [X + N])), ("b", Call("upto", [N, Call("power", [A])])),
                ("c", Sum("j", X, Call("upto", [Name("j"), B])))]
        self.assertEqual(self.degrees(lets), {"a": {"x": 4, "n": 4}, "b": {"x": 16, "n": 18},
                                              "c": {"x": 16 + 3, "n": 18}})

    def test_by_lot(self):
        lot = by_lot(71)
        for _ in range(200):
            made = plain_by_lot(lot, 8)
            formulas = dict(made.laid().lets)
            self.assertEqual(program_degrees(made), {
                name: {one: slow_degree(formula, one, formulas) for one in ("x", "n")
                       if slow_degree(formula, one, formulas)} for name, formula in formulas.items()})

    def test_very_large_degrees(self):
        lets = [("a", big_power("x", 100))]
        for at in range(1, 20):
            lets.append((chr(97 + at) * 3, big_power(lets[-1][0], 100)))
        found = self.degrees(lets)
        self.assertEqual(found[lets[-1][0]], {"x": 100 ** 20})

    def test_new_dicts(self):
        made = program([("a", X), ("b", A), ("c", A)])
        self.fresh(lambda: program_degrees(made))
        found = program_degrees(made)
        found["a"]["x"] = 7
        found["b"].clear()
        self.assertEqual(found["c"], {"x": 1})
        self.assertEqual(program_degrees(made), {"a": {"x": 1}, "b": {"x": 1}, "c": {"x": 1}})

    def test_wrong(self):
        far = ("far", big_power("x", 13))
        large = [("big", ("p",), BIG)]
        for function in (program_degrees, tables):
            for thing in not_programs():
                self.fails(BadProgram, thing, function, thing)
            choice = Choice(X, X, X, X)
            self.fails(NotPlain, 0, function, program([("a", choice)]))
            self.fails(NotPlain, 2, function, program([far, ("a", X), ("b", choice), ("c", choice)]))
            self.fails(NotPlain, 1, function, program([("a", Call("big", [-X])), ("b", choice)], defs=large))
            self.fails(TooMany, None, function, program([("a", Call("big", [X]) + Call("big", [X])), far], defs=large))
            self.fails(TooMany, None, function, too_large())
        self.assertEqual(program_degrees(program([far])), {"far": {"x": 13}})


class Tables(Case):
    def test_ordinary(self):
        made = program([("a", X * X), ("b", A - Number(1)), ("c", Call("upto", [N, B])), ("d", A - A)])
        found = tables(made)
        self.assertEqual(list(found), ["x", "n", "a", "b", "c", "d"])
        self.assertEqual(found["n"], Table(8, ("n",), {(1,): 1}))
        self.assertEqual(found["a"].rows(), [((1,), 1), ((2,), 2)])
        self.assertEqual(found["b"].rows(), [((0,), 255), ((1,), 1), ((2,), 2)])
        self.assertEqual(found["c"].rows(), [((2, 0), 255), ((2, 1), 1), ((2, 2), 2)])
        self.assertEqual(found["d"], Table(8, (), {}))

    def test_by_lot(self):
        lot = by_lot(72)
        done = 0
        while done < 150:
            made = plain_by_lot(lot, lot.randrange(1, 4))
            try:
                found = tables(made)
            except TooMany:
                continue
            done += 1
            for values in inputs_of(["x", "n"], made.width):
                words = slow_words(made, values)
                self.assertEqual({name: found[name].word_at(values) for name in found}, words)

    def small(self, lets, **parts):
        tables(program(lets, **parts))

    def large(self, lets, **parts):
        program_degrees(program(lets, **parts))
        self.fails(TooMany, None, tables, program(lets, **parts))

    def test_degrees_of_12_and_13(self):
        self.small([("a", big_power("x", 3)), ("b", Call("power", [A]))])
        self.large([("a", big_power("x", 3)), ("b", Call("power", [A]) * X)])
        self.large([("a", big_power("x", 3)), ("b", Call("power", [A]) * X)], width=1)
        self.large([("a", big_power("x", 13) - big_power("x", 13)), ("b", X)])
        self.large([("a", big_power("x", 7)), ("b", A - A * X), ("c", B * A), ("d", X)])
        self.small([("a", big_power("n", 11)), ("b", Sum("i", N, X))])
        self.small([("a", big_power("n", 11)), ("b", Sum("j", N, A))])
        self.large([("a", big_power("n", 12)), ("b", Sum("j", N, A))])
        self.small([("a", big_power("n", 12)), ("b", Sum("j", Number(5), A))])
        self.small([("a", Number(3)), ("b", big_power("a", 100)), ("c", big_power("x", 12) * B)])

    def test_products_of_400_and_more(self):
        names = ("w", "x", "y", "z")
        half = ("a", product_of({"w": 4, "x": 4}))
        self.small([half, ("b", A * product_of({"y": 3, "z": 3}))], inputs=names)
        self.large([half, ("b", A * product_of({"y": 3, "z": 4}))], inputs=names)
        self.large([half, ("b", A + A * product_of({"y": 3, "z": 4})), ("c", X)], inputs=names)

    def test_bodies_of_sums(self):
        self.small([("a", Sum("j", Number(4), big_power("j", 12)))])
        self.large([("a", Sum("j", Number(4), big_power("j", 13)))])
        self.large([("a", Call("sums", [X]))], defs=[("sums", ("p",), Sum("j", Number(4), big_power("j", 13)))])
        four = product_of({"w": 1, "x": 1, "y": 1, "z": 1})
        names = ("w", "x", "y", "z")
        self.small([("a", four), ("b", Sum("j", Number(4), A))], inputs=names)
        # The index is an input of the body, so that this body has five.
        self.large([("a", four), ("b", Sum("j", Number(4), A + Name("j")))], inputs=names)
        self.small([("a", product_of({"x": 7, "n": 6})), ("b", Sum("j", Number(4), A * big_power("j", 6)))])
        self.large([("a", product_of({"x": 7, "n": 7})), ("b", Sum("j", Number(4), A * big_power("j", 6)))])

    def test_new_dict(self):
        made = program([("a", X)])
        self.fresh(lambda: tables(made))


def pairs_by_lot(seed, many):
    """Pairs of programs with the same outs as sets, whose lets are often alike."""
    lot = by_lot(seed)
    found = []
    while len(found) < many:
        width = lot.randrange(1, 4)
        one = plain_by_lot(lot, width)
        lets = list(one.lets) if lot.randrange(2) else list(plain_by_lot(lot, width).lets)
        at = lot.randrange(len(lets))
        lets[at] = (lets[at][0], lets[at][1] + (X - X if lot.randrange(2) else X * (X - Number(1)) << 1))
        try:
            other = Program(width, ["n", "x"], one.defs, lets, one.outs[::-1])
            tables(one)
            tables(other)
        except (BadProgram, TooMany):
            continue
        found.append((one, other))
    return found


class Alike(Case):
    def test_ordinary(self):
        one = program([("a", X * X), ("b", A - N * N)], outs=["b"])
        other = program([("c", X + N), ("b", Name("c") * (X - N)), ("d", X)], outs=["b"])
        self.assertIs(programs_alike(one, other), True)
        self.assertIsNone(programs_apart(one, other))
        third = program([("b", X * X)], outs=["b"])
        self.assertIs(programs_alike(one, third), False)
        self.assertEqual(programs_apart(one, third), {"n": 1, "x": 0})
        self.assertEqual(list(programs_apart(one, third)), ["n", "x"])

    def test_outs_in_another_order(self):
        one = program([("a", X + N), ("b", X * N)], outs=["a", "b", "x"])
        other = program([("b", N * X), ("a", N + X)], outs=["x", "b", "a"])
        self.assertIs(programs_alike(one, other), True)
        swapped = program([("b", N + X), ("a", N * X)], outs=["b", "a", "x"])
        self.assertIs(programs_alike(one, swapped), False)
        self.assertEqual(programs_apart(one, swapped), {"n": 0, "x": 1})

    def test_by_lot(self):
        seen = {True: 0, False: 0}
        for one, other in pairs_by_lot(73, 150):
            unlike = [values for values in inputs_of(["n", "x"], one.width)
                      if slow_run(one, values) != slow_run(other, values)]
            least = min(unlike, key=lambda values: (values["n"] + values["x"], values["n"]), default=None)
            self.assertIs(programs_alike(one, other), not unlike)
            self.assertEqual(programs_apart(one, other), least)
            seen[not unlike] += 1
            for values in inputs_of(["n", "x"], one.width):
                self.assertIs(is_programs_apart(one, other, values), values in unlike)
        self.assertGreater(min(seen.values()), 30)

    def test_least_of_all_outs(self):
        # The first out differs at a later input than the second one.
        one = program([("a", X * N * N), ("b", Number(0)), ("c", X * X)], outs=["a", "b", "c"], inputs=["x", "n", "k"])
        zero = [("a", Number(0)), ("b", Number(0)), ("c", Number(0))]
        other = program(zero, outs=["a", "b", "c"], inputs=["k", "x", "n"])
        self.assertEqual(programs_apart(one, other), {"k": 0, "n": 0, "x": 1})
        other = program(zero[:2] + [("c", X * X + Number(2) * N)], outs=["a", "b", "c"], inputs=["n", "x"])
        self.assertEqual(programs_apart(one, other), {"k": 0, "n": 1, "x": 0})
        other = program(zero[:2] + [("c", X * X + (X * X - X << 1))], outs=["a", "b", "c"], inputs=["n", "x"])
        self.assertEqual(programs_apart(one, other), {"k": 0, "n": 0, "x": 2})
        other = program(zero[:2] + [("c", X * X)], outs=["a", "b", "c"], inputs=["n", "x"])
        self.assertEqual(programs_apart(one, other), {"k": 0, "n": 1, "x": 1})

    def test_inputs_together(self):
        one = program([("a", X)], outs=["a"], inputs=["x", "n"])
        other = program([("a", X + Y - Y)], outs=["a"], inputs=["y", "x", "z"])
        self.assertIs(programs_alike(one, other), True)
        four = program([("a", Y)], outs=["a"], inputs=["y", "x", "z"])
        self.assertEqual(programs_apart(one, four), {"n": 0, "x": 0, "y": 1, "z": 0})
        # Inputs that stand nowhere are inputs, too.
        far = program([("a", X)], outs=["a"], inputs=["y", "x", "z", "w"])
        for function in (programs_alike, programs_apart, lambda one, other: is_programs_apart(one, other, None)):
            self.fails(TooMany, None, function, one, far)
            function(far, far)

    def test_outs_that_are_not_small_together(self):
        one = program([("a", product_of({"w": 12, "x": 12}) * Number(3))], outs=["a"], inputs=["w", "x"], width=64)
        full = product_of({"y": 12, "z": 12})
        other = program([("a", full)], outs=["a"], inputs=["y", "z"], width=64)
        self.assertEqual(programs_apart(one, other), {"w": 0, "x": 0, "y": 1, "z": 1})
        many = product_of({"w": 4, "x": 4, "y": 3, "z": 3})
        rows = Program(64, "w x y z".split(), (), [("a", many)], ["a"])
        self.assertEqual(programs_apart(rows, Program(64, "w x y z".split(), (), [("a", full)], ["a"])),
                         {"w": 0, "x": 0, "y": 1, "z": 1})

    def test_widths(self):
        for width, found in ((1, None), (2, {"x": 2}), (64, {"x": 2})):
            one = Program(width, ["x"], (), [("a", X * X)], ["a"])
            other = Program(width, ["x"], (), [("a", X)], ["a"])
            self.assertEqual(programs_apart(one, other), found)
        high = Program(64, ["x"], (), [("a", X * Number(2 ** 63))], ["a"])
        self.assertIs(programs_alike(high, Program(64, ["x"], (), [("a", X << 63)], ["a"])), True)
        self.assertIs(is_programs_apart(high, Program(64, ["x"], (), [("a", X << 62)], ["a"]), {"x": 2 ** 64 - 1}), True)

    def test_judge(self):
        one = program([("a", X)], outs=["a"])
        other = program([("a", N), ("b", A)], outs=["a"])
        self.assertIs(is_programs_apart(one, other, {"x": 255, "n": 3}), True)
        for thing in any_things() + large_things() + [
                {"x": 3, "n": 3}, {"x": 3}, {"x": 3, "n": 4, "y": 0}, {"x": 256, "n": 0}, {"x": -1, "n": 0},
                {"x": True, "n": 0}, {"x": 1, "n": False}, {"x": 1, "n": None}, {"x": 1, 2: 0}, [("x", 1), ("n", 0)]]:
            self.assertIs(is_programs_apart(one, other, thing), False)
        three = Program(8, ["x", "n", "k"], (), [("a", N)], ["a"])
        self.assertIs(is_programs_apart(one, three, {"x": 1, "n": 0, "k": 7}), True)
        self.assertIs(is_programs_apart(one, three, {"x": 1, "n": 0}), False)
        none = Program(8, (), (), [("a", Number(1))], ["a"])
        self.assertIs(is_programs_apart(none, Program(8, (), (), [("a", Number(2))], ["a"]), {}), True)

    def test_wrong(self):
        good = program([("a", X)], outs=["a"])
        choice = program([("b", X), ("a", Choice(X, X, X, X))], outs=["a"])
        large = program([("a", big_power("x", 13))], outs=["a"])
        judge = lambda one, other: is_programs_apart(one, other, None)
        for function in (programs_alike, programs_apart, judge):
            for thing in not_programs():
                self.fails(BadProgram, thing, function, thing, None)
                self.fails(BadProgram, thing, function, choice, thing)
            for other in (program([("a", X)], outs=["a"], width=9), program([("a", X)], outs=["x"]),
                          program([("a", X)], outs=["a", "x"]), program([("b", X)], outs=["b"])):
                self.fails(BadProgram, other, function, large, other)
                self.fails(BadProgram, large, function, other, large)
            self.fails(NotPlain, 1, function, choice, large)
            self.fails(TooMany, None, function, large, choice)
            self.fails(NotPlain, 1, function, good, choice)
            self.fails(TooMany, None, function, good, large)
            self.fails(TooMany, None, function, program([]), too_large())
            self.fails(TooMany, None, function, large, large)

    def test_new_dict(self):
        one = program([("a", X)], outs=["a"])
        other = program([("a", N)], outs=["a"])
        self.fresh(lambda: programs_apart(one, other))
