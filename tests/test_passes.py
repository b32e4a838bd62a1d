"""Passes and program papers: [49] and [50]."""

from samewords.errors import BadPass, BadProgram, NotPlain, TooMany, Unlike
from samewords.formulas import Call, Name, Number, Sum
from samewords.leaving import idle, lean
from samewords.passes import PASSES, is_program_paper, passed, program_paper
from samewords.plain import programs_alike, programs_apart
from samewords.programs import Choice, Program, run
from tests.helper import (X, Case, any_things, big_power, by_lot, inputs_of, large_things, not_programs, plain_by_lot, slow_run)
from tests.test_leaving import all_words, slow_equals, slow_idle
from tests.test_plain import too_large

N = Name("n")
I = Name("i")
P = Name("p")
A = Name("a")
B = Name("b")
C = Name("c")
D = Name("d")
DEFS = [("twice", ("p",), P + P), ("sums", ("p", "q"), Sum("k", P, Name("q") + Name("k")))]


def program(lets, outs=("a",), width=8, inputs=("x", "n"), defs=()):
    return Program(width, inputs, defs, lets, outs)


def named_away(lets):
    """The lets without names of bare ones, by putting one in after the other until nothing changes."""
    while True:
        bare = [(name, value) for name, value in lets if value.kind in ("name", "number")]
        after = lets
        for name, value in bare:
            after = [(one, formula.with_input(name, value)) for one, formula in after]
        if after == lets:
            return lets
        lets = after


def slow_passed(made, name):
    """The pass by the words at all inputs."""
    made = made.laid()
    again = lambda lets: Program(made.width, made.inputs, (), lets, made.outs)
    lets = list(made.lets)
    words = all_words(made)
    if name == "constants":
        lets = [(one, Number(words[one][0]) if len(set(words[one])) == 1 else value) for one, value in lets]
    if name == "equals":
        lets = slow_equals(list(made.inputs), lets, words)
    if name == "names":
        lets = named_away(lets)
    if name == "unused":
        for one, value in lets[::-1]:
            if one not in made.outs and not any(one in other.input_names() for _, other in lets):
                lets.remove((one, value))
    if name == "idle":
        for one, _ in lets[::-1]:
            if one not in made.outs and slow_idle(again(lets), one):
                lets = [(other, value.with_input(one, Number(0))) for other, value in lets if other != one]
    return again(lets)


class Passes(Case):
    def gives(self, name, lets, after, outs=("a",), **parts):
        before = program(lets, outs, **parts)
        found = passed(before, name)
        self.assertEqual(found, program(after, outs, parts.get("width", 8)))
        self.assertIs(programs_alike(before, found), True)
        self.assertEqual(before, program(lets, outs, **parts))

    def test_names_of_passes(self):
        self.assertEqual(PASSES, ("calls", "constants", "equals", "names", "unused", "idle"))

    def test_calls(self):
        self.gives("calls", [("a", Call("twice", [Call("sums", [N, X])])), ("b", Number(300))],
                   [("a", Sum("k", N, X + Name("k")) + Sum("k", N, X + Name("k"))), ("b", Number(300))], defs=DEFS)
        self.gives("calls", [("a", X)], [("a", X)], defs=DEFS)
        self.gives("calls", [], [], outs=("n", "x"), defs=DEFS)

    def test_constants(self):
        self.gives("constants", [("b", Number(300)), ("c", X - X), ("d", (X * X + X) << 7), ("a", B + C + X), ("e", Number(-0))],
                   [("b", Number(44)), ("c", Number(0)), ("d", Number(0)), ("a", B + C + X), ("e", Number(0))])
        self.gives("constants", [("a", Call("twice", [Number(3)])), ("b", Call("twice", [X]))], [("a", Number(6)), ("b", X + X)],
                   defs=DEFS)
        # A let that is made of others counts by its table: B - B and so on.
        self.gives("constants", [("b", X * N), ("a", B - N * X), ("c", A + Number(2 ** 64))],
                   [("b", X * N), ("a", Number(0)), ("c", Number(0))])

    def test_equals(self):
        self.gives("equals", [("b", X + Number(0)), ("c", X * N), ("d", N * X), ("a", D - C + X), ("e", Number(3)), ("f", Number(3))],
                   [("b", X), ("c", X * N), ("d", C), ("a", X), ("e", Number(3)), ("f", Number(3))])
        # Inputs in their order first, then lets; the first one counts.
        self.gives("equals", [("b", N + Number(1)), ("c", Number(1) + N), ("a", N + Number(257))], [("b", N + Number(1)), ("c", B), ("a", B)])
        self.gives("equals", [("b", X), ("a", B)], [("b", X), ("a", X)])
        self.gives("equals", [("b", X + N), ("a", Call("twice", [X]) + N - X)], [("b", X + N), ("a", B)], defs=DEFS)

    def test_equals_with_degrees_above(self):
        """The text of b has a higher degree than that of c, which so does not become b, but what has it does."""
        much = X + (X * X) - (X * X) + N
        self.gives("equals", [("b", much), ("c", X + N), ("a", much - N)], [("b", much), ("c", X + N), ("a", X)])
        self.gives("equals", [("b", much), ("c", X + N), ("a", N + much - N)], [("b", much), ("c", X + N), ("a", B)])
        self.gives("equals", [("b", N * X), ("c", B + X * X - X * X), ("d", C), ("a", X * N)], [("b", N * X), ("c", B), ("d", B), ("a", B)])
        self.gives("equals", [("c", N * X + X * X - X * X), ("b", N * X), ("d", C), ("a", X * N)],
                   [("c", N * X + X * X - X * X), ("b", N * X), ("d", C), ("a", B)])

    def test_names(self):
        self.gives("names", [("b", X), ("c", B), ("d", Number(300)), ("a", Sum("i", N, I * C + D) - B)],
                   [("b", X), ("c", X), ("d", Number(300)), ("a", Sum("i", N, I * X + Number(300)) - X)])
        self.gives("names", [("b", X + Number(0)), ("c", B), ("a", C * C)], [("b", X + Number(0)), ("c", B), ("a", B * B)])
        self.gives("names", [("b", Call("twice", [X])), ("c", B), ("a", Call("twice", [C]))], [("b", X + X), ("c", B), ("a", B + B)],
                   defs=DEFS)

    def test_unused(self):
        self.gives("unused", [("b", X), ("c", B * N), ("d", C + B), ("a", B)], [("b", X), ("a", B)])
        self.gives("unused", [("b", X), ("c", B), ("a", B - C)], [("b", X), ("c", B), ("a", B - C)])
        self.gives("unused", [("b", X), ("a", Number(0)), ("c", B)], [("b", X), ("a", Number(0)), ("c", B)], outs=("c", "a"))
        self.gives("unused", [("b", X), ("c", B)], [], outs=("x",))
        # Used with no effect is used, too.
        self.gives("unused", [("b", X), ("a", B - B)], [("b", X), ("a", B - B)])

    def test_idle(self):
        self.gives("idle", [("b", X), ("c", B * N), ("a", C - C)], [("a", Number(0) - Number(0))])
        self.gives("idle", [("b", X), ("a", B << 8), ("c", X)], [("a", Number(0) << 8)])
        # Two that are each idle and not both: the later one goes.
        self.gives("idle", [("b", X << 7), ("c", X << 7), ("a", B * C + (B << 1) + X)],
                   [("a", Number(0) * Number(0) + (Number(0) << 1) + X)])
        self.gives("idle", [("b", Number(16)), ("c", Number(8)), ("a", B * C * Number(2))], [("a", Number(0) * Number(0) * Number(2))])
        self.gives("idle", [("b", X), ("c", X - X), ("a", (B + C) * (Number(0) + C))],
                   [("a", (Number(0) + Number(0)) * (Number(0) + Number(0)))])

    def test_idle_and_not_both(self):
        """Each is idle by itself, as the other one is still there; the last one goes, the other one stays."""
        lets = [("b", X), ("c", X), ("a", (X - B) * (X - C))]
        self.assertEqual(idle(program(lets)), ["b", "c", "a"])
        self.gives("idle", lets, [("b", X), ("a", (X - B) * (X - Number(0)))])
        # (1 - (1 - b) * (1 - c)) is 1 if b or c is 1.
        either = Number(1) - (Number(1) - B) * (Number(1) - C)
        left = Number(1) - (Number(1) - B) * (Number(1) - Number(0))
        self.gives("idle", [("b", Number(1)), ("c", Number(1)), ("a", X * either)], [("b", Number(1)), ("a", X * left)])
        self.gives("idle", [("b", Number(1)), ("c", Number(0)), ("a", X * (B + C))], [("b", Number(1)), ("a", X * (B + Number(0)))])
        self.gives("idle", [("b", Number(128)), ("c", Number(128)), ("d", B + C), ("e", B * C), ("a", X + D * D)],
                   [("a", X + Number(0) * Number(0))])

    def test_by_lot(self):
        lot = by_lot(251)
        seen = {name: 0 for name in PASSES}
        for _ in range(70):
            made = plain_by_lot(lot, lot.choice([1, 2, 2]), lot.randrange(1, 6))
            for name in PASSES:
                found = passed(made, name)
                self.assertEqual(found, slow_passed(made, name), name)
                self.assertEqual((found.width, found.inputs, found.outs), (made.width, made.inputs, made.outs))
                self.assertIs(programs_alike(made, found), True)
                seen[name] += found != made.laid()
        del seen["calls"]
        self.assertTrue(all(many > 5 for many in seen.values()), seen)

    def test_several_in_a_row(self):
        """The passes of a lean program, over and over, make the lean program."""
        lot = by_lot(252)
        for _ in range(60):
            made = plain_by_lot(lot, lot.choice([1, 3, 8, 64]), 5)
            left = passed(made, "calls")
            while True:
                before = left
                for name in ("constants", "equals", "names", "idle"):
                    left = passed(left, name)
                if len(left.lets) == len(before.lets):
                    break
            self.assertEqual(left, lean(made))
            for values in inputs_of(made.inputs, made.width, 3):
                self.assertEqual(run(left, values), slow_run(made, values))

    def test_wrong(self):
        for thing in not_programs():
            self.fails(BadProgram, thing, passed, thing, None)
        self.fails(NotPlain, 1, passed, program([("b", X), ("a", Choice(X, X, X, X))]), None)
        self.fails(TooMany, None, passed, too_large(), None)
        self.fails(TooMany, None, passed, program([("a", big_power("x", 13))]), None)
        for name in any_things() + ["call", "Calls", "lean", "idle ", PASSES]:
            self.fails(BadPass, name, passed, program([("a", X)]), name)


class Papers(Case):
    ONE = program([("a", Sum("i", N, I * X))], ["a", "n"])
    OTHER = program([("b", X * N), ("a", (B * N - B) * Number(128 + 1) - (B * N - B) * Number(128)), ("c", Number(1))], ["a", "n"])
    HALVED = program([("c", Number(0)), ("a", Sum("i", N, I) * X + C)], ["a", "n"])
    PAPER = ((2, 1), {(0, 0): (0, 0), (0, 1): (0, 0), (1, 0): (0, 1), (1, 1): (0, 1), (2, 0): (0, 2), (2, 1): (1, 2)})

    def test_alike(self):
        self.assertEqual(program_paper(self.ONE, self.HALVED), self.PAPER)
        self.assertEqual(program_paper(self.HALVED, self.ONE), self.PAPER)
        self.assertIs(is_program_paper(self.ONE, self.HALVED, self.PAPER), True)
        self.fresh(lambda: program_paper(self.ONE, self.HALVED)[1])
        defs = program([("a", Call("sums", [N, Number(0)]) * X)], ["a", "n"], defs=DEFS)
        self.assertEqual(program_paper(defs, self.ONE), self.PAPER)

    def test_unlike(self):
        self.fails(Unlike, {"n": 2, "x": 1}, program_paper, self.ONE, self.OTHER)
        self.assertEqual(programs_apart(self.ONE, self.OTHER), {"n": 2, "x": 1})
        self.assertIs(is_program_paper(self.ONE, self.OTHER, self.PAPER), False)
        self.assertIs(is_program_paper(self.OTHER, self.ONE, self.PAPER), False)

    def words(self, ends):
        return {(n, x): (n * (n - 1) // 2 * x % 256, n) for n in range(ends[0] + 1) for x in range(ends[1] + 1)}

    def judged(self, answer, *things):
        for thing in things:
            self.assertIs(is_program_paper(self.ONE, self.HALVED, thing), answer)

    def test_judge(self):
        for ends in ((2, 1), (3, 1), (2, 2), (9, 39), (40, 8)):
            self.judged(True, (ends, self.words(ends)))
        for ends in ((1, 1), (2, 0), (10, 40), (41, 1), (20, 20)):
            self.judged(False, (ends, self.words(ends)))
        ends, words = self.PAPER
        for row, told in words.items():
            self.judged(False, (ends, {**words, row: (told[0], told[1] + 1)}), (ends, {**words, row: list(told)}),
                        (ends, {one: words[one] for one in words if one != row}))
        self.judged(False, (ends, {**words, (3, 0): (0, 3)}), [ends, words], (list(ends), words), (ends, words, 0),
                    (ends, {**words, (1, 0): (False, 1)}))
        self.judged(False, *any_things())
        self.judged(False, *large_things())
        self.judged(False, *[(ends, thing) for thing in any_things() + large_things()])

    def test_boxes_of_400_rows_and_of_more(self):
        made = lambda many: program([("a", big_power("x", 7)), ("b", big_power("y", 4)), ("c", big_power("z", many))], ["a", "b", "c"], 64,
                                    ("x", "y", "z"))
        paper = program_paper(made(9), made(9))
        self.assertEqual((paper[0], len(paper[1])), ((7, 4, 9), 400))
        self.assertIs(is_program_paper(made(9), made(9), paper), True)
        self.fails(TooMany, None, program_paper, made(10), made(10))
        self.assertIs(is_program_paper(made(10), made(10), paper), False)
        self.fails(Unlike, {"x": 0, "y": 0, "z": 2}, program_paper, made(10), made(9))

    def test_each_pass_has_a_paper(self):
        lot = by_lot(253)
        for _ in range(40):
            made = plain_by_lot(lot, lot.choice([1, 2, 8]), 5)
            for name in PASSES:
                try:
                    paper = program_paper(made, passed(made, name))
                except TooMany:
                    continue
                self.assertIs(is_program_paper(made, passed(made, name), paper), True)
                names = sorted(made.inputs)
                for row, told in paper[1].items():
                    self.assertEqual(told, tuple(slow_run(made, dict(zip(names, row))).values()))

    def test_wrong(self):
        one = program([("a", X), ("b", N)], ["a", "b"])
        both = lambda error, value, *pair: (self.fails(error, value, program_paper, *pair),
                                            self.fails(error, value, is_program_paper, *pair, None))
        for thing in not_programs():
            both(BadProgram, thing, thing, None)
            both(BadProgram, thing, one, thing)
        for other in (program([("a", X), ("b", N)], ["b", "a"]), program([("a", X), ("b", N)], ["a"]),
                      program([("a", X), ("b", N)], ["a", "b"], 7), program([("a", X), ("b", N)], ["a", "b"], 8, ("n", "x")),
                      program([("a", X), ("b", N)], ["a", "b"], 8, ("n", "x", "z")), program([("a", X), ("b", N)], ["a", "n"])):
            both(BadProgram, other, one, other)
        choice = program([("a", X), ("b", Choice(X, X, X, X))], ["a", "b"])
        large = program([("a", X), ("b", big_power("x", 13))], ["a", "b"])
        both(NotPlain, 1, choice, choice)
        both(NotPlain, 1, one, choice)
        both(NotPlain, 1, choice, large)
        both(TooMany, None, large, choice)
        both(TooMany, None, one, large)
        both(BadProgram, None, choice, None)
