"""Leaving out: [26] to [28]."""

from samewords.errors import BadName, BadProgram, NotPlain, TooMany
from samewords.formulas import Call, Name, Number, Sum
from samewords.leaving import classes, constants, idle, lean, without
from samewords.plain import program_degrees, programs_alike, programs_apart, tables
from samewords.programs import Choice, Program, run
from tests.helper import (X, Case, any_things, big_power, by_lot, inputs_of, not_names, not_programs, plain_by_lot,
                          slow_degree, slow_words)
from tests.test_plain import too_large

N = Name("n")
I = Name("i")
P = Name("p")
A = Name("a")
B = Name("b")
C = Name("c")
D = Name("d")
E = Name("e")
DEFS = [("twice", ("p",), P + P)]


def program(lets, outs=("a",), width=8, inputs=("x", "n"), defs=DEFS):
    return Program(width, inputs, defs, lets, outs)


def all_words(made):
    """For each input and let the tuple of its words at all inputs."""
    rows = [slow_words(made, values) for values in inputs_of(made.inputs, made.width)]
    return {name: tuple(row[name] for row in rows) for name in rows[0]}


def slow_idle(made, name):
    lets = [(one, Number(0) if one == name else value) for one, value in made.lets]
    one, other = all_words(made), all_words(Program(made.width, made.inputs, made.defs, lets, made.outs))
    return all(one[out] == other[out] for out in made.outs)


def slow_lean(made, rounds=100):
    """The lean program, or what so many rounds of (2) to (5) leave, by the words at all inputs."""
    made = made.laid()
    inputs, outs = list(made.inputs), made.outs
    again = lambda lets: Program(made.width, made.inputs, (), lets, outs)
    lets = list(made.lets)
    for _ in range(rounds):
        words = all_words(again(lets))
        lets = [(name, Number(words[name][0]) if len(set(words[name])) == 1 else value) for name, value in lets]
        lets = slow_equals(inputs, lets, words)
        for _ in lets:
            for name, bare in lets:
                if bare.kind in ("name", "number"):
                    lets = [(one, value.with_input(name, dict(lets)[name])) for one, value in lets]
        left = len(lets)
        for name, _ in lets[::-1]:
            if name not in outs and slow_idle(again(lets), name):
                lets = [(one, value.with_input(name, Number(0))) for one, value in lets if one != name]
        if len(lets) == left:
            break
    return again(lets)


def slow_equals(inputs, lets, words):
    """Step (3): the lets, each with the name of the first thing ahead that is equal in its place."""
    formulas = dict(lets)
    found = {name: {one: slow_degree(Name(name), one, formulas) for one in inputs} for name in inputs + list(formulas)}
    steps = []
    for at, (name, value) in enumerate(lets):
        for one in inputs + [name for name, _ in lets[:at]]:
            if len(set(words[name])) > 1 and words[one] == words[name] \
                    and all(found[one][key] <= found[name][key] for key in inputs):
                value = Name(one)
                break
        steps.append((name, value))
    return steps


class Without(Case):
    def test_ordinary(self):
        made = program([("a", X * N), ("b", Call("twice", [A])), ("c", B - A)], ["c", "a"])
        self.assertEqual(without(made, "b"), program([("a", X * N), ("b", Number(0)), ("c", B - A)], ["c", "a"]))
        self.assertEqual(run(without(made, "b"), {"x": 2, "n": 3}), {"c": 250, "a": 6})
        self.assertEqual(without(made, "c").lets[2], ("c", Number(0)))
        self.assertEqual(made, program([("a", X * N), ("b", Call("twice", [A])), ("c", B - A)], ["c", "a"]))

    def test_choices_and_what_is_not_small(self):
        choice = Choice(X, N, X, X)
        made = program([("a", choice), ("b", choice), ("c", big_power("x", 13))])
        self.assertEqual(without(made, "b"), program([("a", choice), ("b", Number(0)), ("c", big_power("x", 13))]))
        self.assertEqual(without(made, "c").lets, (("a", choice), ("b", choice), ("c", Number(0))))
        self.assertEqual(without(too_large(), "a").lets, (("a", Number(0)),))

    def test_wrong(self):
        for thing in not_programs():
            self.fails(BadProgram, thing, without, thing, None)
        made = program([("a", X), ("b", X)])
        for name in not_names() + ["x", "n", "twice", "p", "c"]:
            self.fails(BadName, name, without, made, name)
        for name in any_things():
            if name not in not_names():
                self.fails(BadName, name, without, made, name)


class Idle(Case):
    def test_ordinary(self):
        made = program([("a", X), ("b", A * N), ("c", B - B), ("d", C + A), ("e", Number(0)), ("f", B)], ["d"])
        self.assertEqual(idle(made), ["b", "c", "e", "f"])
        self.assertEqual(idle(program([("a", X)])), [])
        self.assertEqual(idle(program([("a", X)], ["x"])), ["a"])
        self.assertEqual(idle(program([("a", X - X)])), ["a"])
        self.assertEqual(idle(program([("a", X << 8)])), ["a"])
        self.assertEqual(idle(program([("a", X << 8)], width=9)), [])
        self.assertEqual(idle(program([], ["x"])), [])

    def test_two_that_are_not_idle_together(self):
        lets = [("a", Number(1)), ("b", Number(1)), ("c", X * (A - Number(1)) * (B - Number(1)) + N)]
        made = program(lets, ["c"])
        self.assertEqual(idle(made), ["a", "b"])
        neither = without(without(made, "a"), "b")
        self.assertIs(programs_alike(made, neither), False)
        self.assertEqual(programs_apart(made, neither), {"n": 0, "x": 1})
        made = program([("a", X), ("b", X), ("c", (X - A) * (X - B) * N)], ["c"])
        self.assertEqual(idle(made), ["a", "b", "c"])

    def test_sums_and_calls(self):
        made = program([("a", X), ("b", Sum("i", N, A * I)), ("c", Call("twice", [B])), ("d", (C - B - B) * A + A)], ["d"])
        # Without c, d becomes another word; without b, c and d stay in step.
        self.assertEqual(idle(made), ["b"])

    def test_by_lot(self):
        lot = by_lot(81)
        done = 0
        while done < 150:
            made = plain_by_lot(lot, lot.randrange(1, 3))
            try:
                found = idle(made)
            except TooMany:
                continue
            done += 1
            self.assertEqual(found, [name for name, _ in made.lets if slow_idle(made, name)])
            for name, _ in made.lets:
                self.assertEqual(programs_apart(made, without(made, name)) is None, name in found)


class Equal(Case):
    def test_classes(self):
        made = program([("a", X + N), ("b", X), ("c", N + B), ("d", Number(3)), ("e", (N << 8) + X), ("f", A * A),
                        ("g", Number(259)), ("h", X * Number(3))], ["a"])
        self.assertEqual(classes(made), [["x", "b", "e"], ["a", "c"], ["d", "g"]])
        self.assertEqual(classes(program([("a", X), ("b", X * X)], width=1)), [["x", "a", "b"]])
        self.assertEqual(classes(program([("a", X * X)])), [])
        self.assertEqual(classes(program([], ["x"])), [])
        backwards = program([("a", X), ("b", N)], inputs=["x", "n"])
        self.assertEqual(classes(backwards), [["x", "a"], ["n", "b"]])
        self.assertEqual(classes(program([("a", X), ("b", N)], inputs=["n", "x"])), [["n", "b"], ["x", "a"]])

    def test_constants(self):
        made = program([("a", X - X), ("b", Number(300)), ("c", B + N), ("d", X * (X - Number(1)) << 7),
                        ("e", Sum("i", Number(10), I))], ["a"])
        self.assertEqual(constants(made), {"a": 0, "b": 44, "d": 0, "e": 45})
        self.assertEqual(list(constants(made)), ["a", "b", "d", "e"])
        self.assertEqual(constants(program([("a", X)])), {})

    def test_by_lot(self):
        lot = by_lot(82)
        done = 0
        while done < 150:
            made = plain_by_lot(lot, lot.randrange(1, 3))
            try:
                found = classes(made)
            except TooMany:
                continue
            done += 1
            words = all_words(made)
            names = ["x", "n"] + [name for name, _ in made.lets]
            groups = [[name for name in names if words[name] == words[first]] for first in names]
            self.assertEqual(found, [group for first, group in zip(names, groups) if group[0] == first and group[1:]])
            self.assertEqual(constants(made), {name: words[name][0] for name, _ in made.lets if len(set(words[name])) == 1})


class Lean(Case):
    def lean(self, lets, outs, expected, **parts):
        made = program(lets, outs, **parts)
        self.assertEqual(lean(made), program(expected, outs, defs=(), **parts))

    def test_calls(self):
        self.lean([("a", Call("twice", [X])), ("b", Call("twice", [A]) * N)], ["b"], [("a", X + X), ("b", (A + A) * N)])

    def test_constants(self):
        self.lean([("a", X - X + Number(300)), ("b", N + A), ("c", A)], ["b", "c"],
                  [("b", N + Number(44)), ("c", Number(44))])
        self.lean([("a", Number(300))], ["a"], [("a", Number(44))])
        # What is left of it as a let of an out is a number of its own, not the name of the first one.
        self.lean([("a", Number(3)), ("b", Number(259))], ["a", "b"], [("a", Number(3)), ("b", Number(3))])

    def test_equals(self):
        self.lean([("a", X * N), ("b", N * X), ("c", A + B)], ["c"], [("a", X * N), ("c", A + A)])
        self.lean([("a", X * N), ("b", N * X)], ["a", "b"], [("a", X * N), ("b", A)])
        self.lean([("a", X + N - N), ("b", A * N)], ["a", "b"], [("a", X), ("b", X * N)])
        # Inputs go ahead of lets, and the first one of each goes ahead of the others.
        self.lean([("a", X << 1), ("b", X + X), ("c", X * Number(2)), ("d", C * C)], ["c", "b", "d"],
                  [("a", X << 1), ("b", A), ("c", A), ("d", A * A)])

    def test_equal_to_one_ahead_whose_degrees_are_above_its_own(self):
        high = (X * X) - (X * X) + X + N
        self.lean([("a", high), ("b", X + N), ("c", N + X)], ["a", "b", "c"], [("a", high), ("b", X + N), ("c", B)])
        self.lean([("a", high), ("b", N + X + X * X - X * X)], ["a", "b"], [("a", high), ("b", A)])
        self.lean([("a", X * X + N - N), ("b", X * X)], ["a", "b"], [("a", X * X + N - N), ("b", X * X)])
        # The degrees are those that stand once the constant lets are numbers.
        self.lean([("k", X - X), ("a", (N + N) * (Name("k") + Number(1))), ("b", N << 1)], ["a", "b"],
                  [("a", (N + N) * (Number(0) + Number(1))), ("b", A)])
        # Degrees that are above in one input and below in the other are above.
        mixed = N * N - N * N + X + N
        self.lean([("a", high), ("b", mixed)], ["a", "b"], [("a", high), ("b", mixed)])

    def test_names(self):
        self.lean([("a", X), ("b", A), ("c", B + Sum("i", N, B * I))], ["c"], [("c", X + Sum("i", N, X * I))])
        self.lean([("a", X), ("b", A), ("c", B)], ["c", "a"], [("a", X), ("c", X)])
        self.lean([("a", X * N), ("b", A), ("c", B), ("d", C - X)], ["d", "b"], [("a", X * N), ("b", A), ("d", A - X)])

    def test_idle_from_the_last_to_the_first(self):
        self.lean([("a", X), ("b", A * N), ("c", B - X)], ["a"], [("a", X)])
        self.lean([("a", X << 4), ("b", N << 4), ("c", A * B + X * N)], ["c"], [("c", Number(0) * Number(0) + X * N)])
        # Each of a and b is idle; b is asked first, and then a is not idle any more.
        one, other = X * N + X, N * N + X
        lets = [("a", one), ("b", other), ("c", (A - one) * (B - other) + N * N * X)]
        self.assertEqual(idle(program(lets, ["c"])), ["a", "b"])
        self.lean(lets, ["c"], [("a", one), ("c", (A - one) * (Number(0) - other) + N * N * X)])

    def test_more_than_once(self):
        # Once a is left out, b is x, and is left out, too.
        lets = [("a", X * N), ("b", X + (A << 1)), ("c", B << 7)]
        self.lean(lets, ["c"], [("c", X << 7)])
        made = program(lets, ["c"], width=1)
        self.assertEqual(lean(made), program([("c", Number(0))], ["c"], width=1, defs=()))
        # Once a is left out, b is n, so that it is bare and goes in the next round.
        lets = [("a", X * N), ("b", N + (A << 1)), ("c", (B - N << 7) + X * X), ("d", (C << 2) - (X * X << 2)), ("e", D)]
        self.assertEqual(idle(program(lets, ["c"])), ["a", "d", "e"])
        self.lean(lets, ["c"], [("c", (N - N << 7) + X * X)])

    def test_rounds_by_lot(self):
        lot = by_lot(83)
        more = 0
        for _ in range(300):
            lets = []
            for at in range(6):
                one, other = [Name(lot.choice(["x", "n"] + [name for name, _ in lets])) for _ in range(2)]
                lets.append(("abcdeh"[at], lot.choice([one + (other << 1), one - (other << 1), (one << 1) + other,
                                                       one * other, one + one])))
            made = Program(2, ["x", "n"], (), lets + [("o", Name("h") << 1)], ["o"])
            try:
                found = lean(made)
            except TooMany:
                continue
            self.assertEqual(found, slow_lean(made))
            more += found != slow_lean(made, 1)
        self.assertGreater(more, 5)

    def test_by_lot(self):
        lot = by_lot(84)
        done = 0
        while done < 120:
            made = plain_by_lot(lot, 2, lot.randrange(1, 8))
            try:
                found = lean(made)
            except TooMany:
                continue
            done += 1
            self.assertEqual(found, slow_lean(made))
            self.assertEqual((found.width, found.inputs, found.defs, found.outs), (2, ("x", "n"), (), made.outs))
            self.assertIs(programs_alike(made, found), True)
            self.assertEqual([name for name in idle(found) if name not in found.outs], [])
            self.assertEqual(lean(found), found)
            degrees = program_degrees(made)
            for name, after in program_degrees(found).items():
                self.assertTrue(all(after[key] <= degrees[name].get(key, 0) for key in after))

    def test_width_64(self):
        lets = [("a", X * X - N * N), ("b", (X - N) * (X + N)), ("c", Sum("i", N, I) << 1), ("d", N * N - N),
                ("e", (C - D) * X + B), ("f", A - B + (C << 63))]
        self.lean(lets, ["e", "f"], [("a", X * X - N * N), ("e", A), ("f", Number(0))], width=64)

    def test_outs_stay(self):
        self.lean([("a", X), ("b", X), ("c", X - X)], ["c", "b", "x"], [("b", X), ("c", Number(0))])

    def test_it_stays_as_it_was(self):
        lets = [("a", Call("twice", [X])), ("b", X - X), ("c", A)]
        made = program(lets, ["c"])
        lean(made)
        self.assertEqual(made, program(lets, ["c"]))


class Errors(Case):
    def test_wrong(self):
        choice = program([("a", X), ("b", Choice(X, X, X, X)), ("c", big_power("x", 13))])
        for function in (idle, classes, constants, lean):
            for thing in not_programs():
                self.fails(BadProgram, thing, function, thing)
            self.fails(NotPlain, 1, function, choice)
            self.fails(TooMany, None, function, too_large())
            self.fails(TooMany, None, function, program([("a", X), ("b", big_power("x", 13))]))
            self.fails(TooMany, None, function, program([("a", big_power("x", 13))], width=1))
            function(program([("a", big_power("x", 12))], width=1))

    def test_new_lists_and_dicts(self):
        made = program([("a", X), ("b", X - X), ("c", X)], ["c"])
        for function in (idle, classes, constants):
            self.fresh(lambda: function(made))
        classes(made)[0].append("y")
        self.assertEqual(classes(made), [["x", "a", "c"]])
        self.assertEqual(len(tables(made)), 5)
