"""Laying calls in and running programs: [22] and [23]."""

from samewords.checks import is_name
from samewords.errors import BadValue, TooLong, TooMany
from samewords.formulas import Call, Formula, Name, Number, Sum
from samewords.laying import new_name
from samewords.programs import Choice, Program, run
from tests.helper import WORDS, X, Case, any_things, by_lot, inputs_of, not_integers, slow_run

N = Name("n")
I = Name("i")
J = Name("j")
P = Name("p")
Q = Name("q")
A = Name("a")


def indexes(formula, around=()):
    """The indexes of all sums; it fails where one stands within another of the same index."""
    if not isinstance(formula, Formula):
        return []
    if formula.kind == "sum":
        assert formula.things[0] not in around
        return [formula.things[0]] + indexes(formula.things[2], around + (formula.things[0],))
    things = formula.things[1] if formula.kind == "call" else formula.things
    return [index for thing in things for index in indexes(thing, around)]


def calls(formula):
    if not isinstance(formula, Formula):
        return False
    return formula.kind == "call" or any(calls(thing) for thing in formula.things)


def program_by_lot(lot, width):
    """A program with calls within calls and sums around them, with few names so that indexes clash."""
    defs, lets = [], []
    bounding = {}
    for at in range(3):
        name = "fgh"[at]
        body = formula_by_lot(lot, ["p", "q"], 3, ["p"], defs, "ij")
        defs.append((name, ("p", "q"), body))
    for at in range(3):
        names = ["x", "n"] + ["abc"[before] for before in range(at)]
        value = formula_by_lot(lot, names, 3, ["x", "n"], defs, "ij")
        if lot.randrange(4) == 0:
            value = Choice(value, formula_by_lot(lot, names, 1, ["n"], defs, "ij"), Number(3), Name("x"))
        lets.append(("abc"[at], value))
    return Program(width, ["x", "n"], defs, lets, ["c", "a", "x"])


def formula_by_lot(lot, names, deep, bounds, defs, free):
    """A formula with calls; what is handed to p, which bounds sums, is one of bounds or a number."""
    choice = lot.randrange(9) if deep else 0
    again = lambda: formula_by_lot(lot, names, deep - 1, bounds, defs, free)
    if choice == 0:
        return Name(lot.choice(names)) if lot.randrange(3) else Number(lot.randrange(4))
    if choice in (1, 2, 3) and defs:
        first = Name(lot.choice(bounds)) if lot.randrange(3) else Number(lot.randrange(3))
        return Call(lot.choice(defs)[0], [first, again()])
    if choice in (4, 5) and free:
        index = free[lot.randrange(len(free))]
        below = Name(lot.choice(bounds)) if lot.randrange(3) else Number(lot.randrange(3))
        rest = free.replace(index, "")
        return Sum(index, below, formula_by_lot(lot, names + [index], deep - 1, bounds + [index], defs, rest))
    if choice == 6:
        return -again()
    return again() + again() if choice == 7 else again() * again()


class Laying(Case):
    def laid(self, value, defs, inputs=("x", "n")):
        made = Program(8, inputs, defs, [("a", X), ("b", value)], ["b"]).laid()
        self.assertEqual((made.width, made.inputs, made.defs, made.outs), (8, tuple(inputs), (), ("b",)))
        self.assertEqual(made.lets[0], ("a", X))
        return made.lets[1][1]

    def test_ordinary(self):
        defs = [("f", ("p",), P * P), ("g", ("p", "q"), Call("f", [Q]) - P)]
        self.assertEqual(self.laid(Call("f", [X + A]), defs), (X + A) * (X + A))
        self.assertEqual(self.laid(Call("g", [X, N]), defs), N * N - X)
        self.assertEqual(self.laid(Call("g", [Call("f", [X]), Call("g", [A, Number(3)])]), defs),
                         (Number(3) * Number(3) - A) * (Number(3) * Number(3) - A) - X * X)
        self.assertEqual(self.laid(-Call("f", [X]) << 3, defs), -(X * X) << 3)
        self.assertEqual(self.laid(Choice(Call("f", [X]), X, Call("f", [A]), N), defs), Choice(X * X, X, A * A, N))
        self.assertEqual(self.laid(Sum("i", N, Call("f", [I])), defs), Sum("i", N, I * I))

    def test_things_are_put_in_at_once(self):
        defs = [("f", ("x", "n"), X - N)]
        self.assertEqual(self.laid(Call("f", [N, X]), defs), N - X)
        self.assertEqual(self.laid(Call("f", [N + X, X * N]), defs), (N + X) - (X * N))

    def test_bounds(self):
        defs = [("f", ("p", "q"), Sum("i", P, I * Q)), ("g", ("p",), Call("f", [P, P]))]
        self.assertEqual(self.laid(Call("g", [N]), defs), Sum("i", N, I * N))
        self.assertEqual(self.laid(Call("f", [Number(5), A + X]), defs), Sum("i", Number(5), I * (A + X)))
        self.assertEqual(self.laid(Sum("j", N, Call("f", [J, J])), defs), Sum("j", N, Sum("i", J, I * J)))

    def test_other_indexes_stay(self):
        defs = [("f", ("p",), Sum("i", Number(3), I * P)), ("g", ("p",), Sum("j", Number(2), J * P))]
        self.assertEqual(self.laid(Call("f", [X]) + Call("f", [A]), defs),
                         Sum("i", Number(3), I * X) + Sum("i", Number(3), I * A))
        self.assertEqual(self.laid(Call("f", [Call("g", [X])]), defs),
                         Sum("i", Number(3), I * Sum("j", Number(2), J * X)))
        self.assertEqual(self.laid(Call("f", [X]) * Sum("i", N, I), defs), Sum("i", Number(3), I * X) * Sum("i", N, I))
        self.assertEqual(self.laid(Sum("j", N, Call("f", [J])), defs), Sum("j", N, Sum("i", Number(3), I * J)))

    def clashing(self, value, defs):
        """The laid formula, which has new names for indexes that keep what it means."""
        made = Program(3, ["x", "n"], defs, [("a", X), ("b", value)], ["b"])
        laid = made.laid()
        self.right(made, laid)
        for values in inputs_of(["x", "n"], 3):
            self.assertEqual(run(made, values), slow_run(made, values))
            self.assertEqual(slow_run(laid, values), slow_run(made, values))
        return laid.lets[1][1]

    def right(self, made, laid):
        taken = list(made.inputs) + [name for name, _ in made.lets]
        for name, parameters, _ in made.defs:
            taken += [name, *parameters]
        for _, value in laid.lets:
            for formula in vars(value).values() if isinstance(value, Choice) else [value]:
                self.assertFalse(calls(formula))
                for index in indexes(formula):
                    self.assertTrue(is_name(index) and index not in WORDS and index not in taken)

    def test_clash_with_a_sum_around(self):
        found = self.clashing(Sum("i", N, Call("f", [X])), [("f", ("p",), Sum("i", Number(3), I * P))])
        outer, below, body = found.things
        self.assertEqual((outer, below), ("i", N))
        new = body.things[0]
        self.assertNotEqual(new, "i")
        self.assertEqual(body, Sum(new, Number(3), Name(new) * X))

    def test_clash_with_a_thing(self):
        defs = [("f", ("p",), Sum("i", Number(3), I * P))]
        found = self.clashing(Call("f", [Sum("i", N, I)]), defs)
        new = found.things[0]
        self.assertNotEqual(new, "i")
        self.assertEqual(found, Sum(new, Number(3), Name(new) * Sum("i", N, I)))
        self.assertNotEqual(self.clashing(Call("f", [Call("f", [X])]), defs).things[0], "i")
        self.clashing(Call("f", [Call("f", [Call("f", [X])])]), defs)
        self.clashing(Sum("i", N, Call("f", [Call("f", [I])])), defs)

    def test_clash_in_part(self):
        defs = [("f", ("p", "q"), Sum("i", P, Sum("j", I, (I + J) * Q)) + Sum("j", P, J))]
        found = self.clashing(Sum("i", N, Call("f", [I, X])), defs)
        inner = found.things[2].things[0]
        new = inner.things[0]
        self.assertNotIn(new, ("i", "j"))
        self.assertEqual(inner.things[2].things[0], "j")
        self.assertEqual(found.things[2].things[1], Sum("j", I, J))
        # An index clashes with any thing, also one that is not put in within its sum.
        self.assertNotEqual(self.clashing(Call("f", [N, Sum("j", X, J)]), defs).things[1].things[0], "j")
        self.clashing(Sum("j", N, Call("f", [J, Sum("i", X, I * J)])), defs)

    def test_clash_in_bodies_of_defs(self):
        defs = [("f", ("p",), Sum("i", Number(3), I * P)), ("g", ("p",), Sum("i", P, Call("f", [I + P]))),
                ("h", ("q", "p"), Sum("j", P, Call("g", [J]) + Call("f", [Call("f", [Q])])))]
        self.clashing(Call("h", [X, N]), defs)
        self.clashing(Sum("i", N, Call("h", [I, I])), defs)
        self.clashing(Sum("j", N, Sum("i", J, Call("h", [Call("h", [X, I]), I]))), defs)

    def test_new_names_are_free(self):
        letters = "cdefgh"
        defs = [(letter, ("k", "l", "m", "o"), Sum("i", Number(2), I * Name("k"))) for letter in letters]
        value = X
        for letter in letters:
            value = Call(letter, [value, X, X, Sum("p", N, Sum("q", N, Name("p")))])
        self.clashing(Sum("i", N, value), defs)

    def test_words_of_the_texts_are_no_new_names(self):
        letters = "abcdefghijklmnopqrstuvwxyz"
        names = list(letters) + [one + other for one in letters for other in letters]
        for word, following in (("if", "ig"), ("in", "io")):
            self.assertEqual(new_name(names[:names.index(word)]), following)
        self.assertEqual(new_name([]), "a")
        self.assertEqual(new_name(["a", "c"]), "b")
        self.assertEqual(new_name(names), "aaa")

    def test_by_lot(self):
        lot = by_lot(61)
        done = 0
        while done < 60:
            made = program_by_lot(lot, 2)
            try:
                laid = made.laid()
            except TooMany:
                continue
            done += 1
            self.right(made, laid)
            self.assertEqual(laid.laid(), laid)
            for values in inputs_of(["x", "n"], 2):
                expected = slow_run(made, values)
                self.assertEqual(slow_run(laid, values), expected)
                try:
                    self.assertEqual(run(made, values), expected)
                except TooLong:
                    pass

    def test_too_many(self):
        big = P
        for _ in range(7):
            big = big + big
        self.assertEqual(big.parts, 255)
        defs = [("f", ("p",), big)]
        self.assertEqual(self.laid(Call("f", [X]), defs).parts, 255)
        for value in (Call("f", [X + X]), Call("f", [X]) + Call("f", [X]), Call("f", [Call("f", [X])]),
                      Choice(X, X, X, Call("f", [-X]))):
            made = Program(8, ["x"], defs, [("b", value)], ["x"])
            self.fails(TooMany, None, made.laid)
            self.fails(TooMany, None, run, made, None)
        # The bodies of all defs are laid in, also of those that nobody calls.
        made = Program(8, ["x"], defs + [("g", ("p",), Call("f", [-P]))], [], ["x"])
        self.fails(TooMany, None, made.laid)
        self.fails(TooMany, None, run, made, {"x": 1})
        deep = X
        for _ in range(35):
            deep = -deep
        down = [("f", ("p",), -(-(-(-P))))]
        self.assertEqual(self.laid(Call("f", [deep]), down).depth, 40)
        self.fails(TooMany, None, Program(8, ["x"], down, [("b", Call("f", [-deep]))], ["x"]).laid)

    def test_it_stays_as_it_was(self):
        made = Program(8, ["x"], [("f", ("p",), P * P)], [("b", Call("f", [X]))], ["b"])
        before = Program(8, ["x"], [("f", ("p",), P * P)], [("b", Call("f", [X]))], ["b"])
        made.laid()
        run(made, {"x": 3})
        self.assertEqual(made, before)


class Running(Case):
    def test_ordinary(self):
        defs = [("f", ("p", "q"), Sum("i", P, I * Q))]
        lets = [("a", Call("f", [N, X])), ("b", Choice(A, Number(6), X - N, A << 1)), ("c", A + Name("b"))]
        made = Program(8, ["x", "n"], defs, lets, ["c", "x", "a"])
        self.assertEqual(run(made, {"x": 1, "n": 4}), {"c": 3, "x": 1, "a": 6})
        self.assertEqual(run(made, {"x": 2, "n": 4}), {"c": 36, "x": 2, "a": 12})
        self.assertEqual(list(run(made, {"x": 2, "n": 4})), ["c", "x", "a"])
        self.assertEqual(run(Program(64, (), (), [("a", -Number(1))], ["a"]), None), {"a": 2 ** 64 - 1})
        self.assertEqual(run(Program(1, ["x"], (), [("a", X + X + Number(3))], ["a", "x"]), {"x": 1}), {"a": 1, "x": 1})

    def test_more_values_do_not_matter(self):
        made = Program(8, ["x"], (), [("a", X)], ["a"])
        values = {"x": 3, "a": 77, "y": None, 5: []}
        self.assertEqual(run(made, values), {"a": 3})
        self.assertEqual(values, {"x": 3, "a": 77, "y": None, 5: []})

    def test_bad_value(self):
        made = Program(8, ["y", "x"], (), [("a", X)], ["a"])
        for values in any_things():
            if values != {"x": 1}:
                self.fails(BadValue, "x", run, made, values)
        self.fails(BadValue, "y", run, made, {"x": 1})
        for word in not_integers() + [-1, 256]:
            self.fails(BadValue, "x", run, made, {"x": word, "y": word})
            self.fails(BadValue, "y", run, made, {"x": 255, "y": word})
        for values in any_things():
            self.assertEqual(run(Program(8, (), (), [("a", Number(3))], ["a"]), values), {"a": 3})

    def test_20000_turns_in_all(self):
        lets = [("a", Sum("i", N, I)), ("b", Sum("i", Number(5000), I) + Sum("i", Number(4999), A)), ("c", X)]
        made = Program(64, ["x", "n"], (), lets, ["a"])
        self.assertEqual(run(made, {"x": 0, "n": 10001}), {"a": 10001 * 5000})
        self.fails(TooLong, None, run, made, {"x": 0, "n": 10002})
        # Turns of lets that are no outs count, too; those of the formula that is not given do not.
        choice = Choice(Sum("i", X, Number(1)), X, Sum("i", N, I), Sum("i", Number(20001), I))
        made = Program(64, ["x", "n"], (), [("a", choice)], ["x"])
        self.assertEqual(run(made, {"x": 10000, "n": 10000}), {"x": 10000})
        self.fails(TooLong, None, run, made, {"x": 10000, "n": 10001})
        made = Program(64, ["x", "n"], (), [("a", Choice(X, N, Sum("i", Number(20001), I), Number(3)))], ["a"])
        self.assertEqual(run(made, {"x": 1, "n": 2}), {"a": 3})
        self.fails(TooLong, None, run, made, {"x": 2, "n": 2})
        right = Choice(X, Sum("i", N, I), X, X)
        self.fails(TooLong, None, run, Program(64, ["x", "n"], (), [("a", right)], ["x"]), {"x": 1, "n": 20001})

    def test_new_dict(self):
        made = Program(8, ["x"], (), [("a", X)], ["a", "x"])
        self.fresh(lambda: run(made, {"x": 3}))
