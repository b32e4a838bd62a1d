"""Flows: [36] and [37]."""

from samewords.errors import BadNumber, BadProgram, BadValue, BadValues, BadWants, BadWidth, HasSum, NotPlain, TooMany
from samewords.flows import Flow, flow_of
from samewords.formulas import Call, Name, Number, Sum
from samewords.programs import Choice, Program, run
from tests.helper import (X, Y, Case, any_things, big_power, by_lot, is_plain_integer, is_right_name, inputs_of,
                          not_integers, not_programs, not_rows, not_widths, plain_by_lot, slow_told)
from tests.test_plain import too_large

N = Name("n")
P = Name("p")
A = Name("a")
B = Name("b")
VALUES = [("input", "x"), ("set", 3), ("add", 0, 1), ("sub", 1, 0), ("mul", 2, 2), ("neg", 3), ("shl", 4, 5),
          ("input", "b"), ("add", 6, 5), ("mul", 0, 7)]


def flow_by_lot(lot, many, inputs=("x", "y")):
    """A flow of so many values, some of them without a use."""
    values = [("input", inputs[0])]
    while len(values) < many:
        a, b = lot.randrange(len(values)), lot.randrange(len(values))
        value = lot.choice([("input", lot.choice(inputs)), ("set", lot.randrange(4)), ("add", a, b), ("sub", a, b),
                            ("mul", a, b), ("neg", a), ("shl", a, lot.randrange(3)), ("add", a, len(values) - 1)])
        if value not in values:
            values.append(value)
    return Flow(values, lot.sample(range(many), lot.randrange(1, min(many, 4) + 1)))


class Making(Case):
    def test_attributes(self):
        flow = Flow(VALUES, [8, 0])
        self.assertEqual((flow.operations, flow.wants), (tuple(VALUES), (8, 0)))
        self.assertEqual(sorted(vars(flow)), ["operations", "wants"])
        self.assertEqual(len(flow), 10)
        self.assertEqual(flow.input_names(), ["b", "x"])
        self.assertEqual(Flow([("set", 0)], (0,)).input_names(), [])
        self.assertTrue({"input_names", "uses", "formula", "words", "__len__", "__eq__"} <= set(vars(Flow)))

    def test_copies(self):
        values, wants = list(VALUES), [8, 0]
        flow = Flow(values, wants)
        values.clear()
        wants[0] = 3
        self.assertEqual(flow, Flow(tuple(VALUES), (8, 0)))
        self.fresh(flow.input_names)

    def bad(self, at, *values):
        self.fails(BadValues, at, Flow, values, None)
        self.fails(BadValues, at, Flow, list(values), None)

    def test_many(self):
        row = [("set", number) for number in range(41)]
        self.assertEqual(len(Flow(row[:40], [0])), 40)
        self.assertEqual(len(Flow(row[:1], [0])), 1)
        self.fails(BadValues, -1, Flow, row, None)
        self.fails(BadValues, -1, Flow, [None] * 41, None)
        for row in not_rows() + [[], ()]:
            self.fails(BadValues, -1, Flow, row, None)

    def test_values(self):
        for thing in any_things():
            self.bad(0, thing)
            self.bad(1, ("set", 0), thing, None)
        for value in (("input",), ("input", "x", "x"), ["input", "x"], ("set",), ("set", 1, 1), ("again",), ("copy", 0),
                      ("add", 0), ("add", 0, 0, 0), ("neg",), ("neg", 0, 0), ("shl", 0), ("shl", 0, 0, 0), ("Set", 1),
                      (None, 0), (["set"], 1), ("", 0), (0, "set"), ("out", 0)):
            self.bad(1, ("set", 0), value, None)

    def test_inputs(self):
        for name in any_things():
            if not is_right_name(name):
                self.bad(1, ("set", 0), ("input", name))
        for name in ("sum", "out", "abcdefghi", "", "X"):
            self.bad(0, ("input", name))
        Flow([("input", "abcdefgh")], [0])

    def test_numbers(self):
        for number in (0, 1, 2 ** 64 - 1):
            self.assertEqual(Flow([("set", number)], [0]).operations, (("set", number),))
        for number in not_integers() + [-1, 2 ** 64, 10 ** 5000]:
            self.bad(1, ("set", 5), ("set", number))

    def test_arguments(self):
        for word in ("add", "sub", "mul"):
            Flow([("set", 0), ("set", 1), (word, 1, 0)], [0])
            for number in not_integers() + [-1, 2, 3, 10 ** 5000]:
                self.bad(2, ("set", 0), ("set", 1), (word, number, 0))
                self.bad(2, ("set", 0), ("set", 1), (word, 0, number))
            self.bad(0, (word, 0, 0))
        for number in not_integers() + [-1, 2, 3]:
            self.bad(2, ("set", 0), ("set", 1), ("neg", number))
            self.bad(2, ("set", 0), ("set", 1), ("shl", number, 3))

    def test_shifts(self):
        for number in (0, 1, 64):
            Flow([("set", 0), ("shl", 0, number)], [1])
        for number in not_integers() + [-1, 65, 10 ** 5000]:
            self.bad(1, ("set", 0), ("shl", 0, number))

    def test_twice(self):
        self.bad(1, ("set", 0), ("set", 0))
        self.bad(3, ("set", 0), ("add", 0, 0), ("neg", 1), ("add", 0, 0), None)
        self.bad(2, ("input", "x"), ("input", "y"), ("input", "x"))
        Flow([("set", 0), ("set", 1), ("add", 0, 1), ("add", 1, 0)], [0])

    def test_wants(self):
        values = [("set", number) for number in range(9)]
        self.assertEqual(Flow(values, [8, 1, 2, 3, 4, 5, 6, 7]).wants, (8, 1, 2, 3, 4, 5, 6, 7))
        for wants in not_rows() + [[], (), list(range(9)), [None] * 9]:
            self.fails(BadWants, -1, Flow, values, wants)
        for number in not_integers() + [-1, 9, 3, 10 ** 5000]:
            self.fails(BadWants, 2, Flow, values, [0, 3, number, None])
            self.fails(BadWants, 2, Flow, values, (0, 3, number))
        self.fails(BadWants, 0, Flow, values, [9])

    def test_equal(self):
        flow = Flow(VALUES, [8, 0])
        self.assertTrue(flow == Flow(tuple(VALUES), (8, 0)))
        for other in any_things() + [Flow(VALUES, [0, 8]), Flow(VALUES, [8]), Flow(VALUES[:-1], [8, 0]), VALUES, 10]:
            self.assertFalse(flow == other)
            self.assertTrue(flow != other)


class Asking(Case):
    flow = Flow(VALUES, [8, 0])

    def test_uses(self):
        self.assertEqual([self.flow.uses(number) for number in range(10)],
                         [[2, 3, 9], [2, 3], [4], [5], [6], [8], [8], [9], [], []])
        self.fresh(lambda: self.flow.uses(0))

    def test_numbers_and_shifts_are_no_arguments(self):
        flow = Flow([("set", 2), ("neg", 0), ("set", 1), ("shl", 2, 0), ("shl", 0, 2)], [0])
        self.assertEqual([flow.uses(number) for number in range(5)], [[1, 4], [], [3], [], []])

    def test_formula(self):
        three = Number(3)
        expected = [X, three, X + three, three - X, (X + three) * (X + three), -(three - X),
                    ((X + three) * (X + three)) << 5, Name("b"), (((X + three) * (X + three)) << 5) + -(three - X),
                    X * Name("b")]
        self.assertEqual([self.flow.formula(number) for number in range(10)], expected)

    def test_large_formulas(self):
        values = [("input", "x")] + [("add", at, at) for at in range(10)] + [("neg", 3)]
        flow = Flow(values, [0])
        self.assertEqual(flow.formula(7).parts, 255)
        for number in (8, 9, 10):
            self.fails(TooMany, None, flow.formula, number)
        self.assertEqual(flow.formula(11).parts, 16)
        deep = Flow([("set", 1)] + [("neg", at) for at in range(39)], [0])
        self.assertEqual(deep.formula(39).depth, 40)

    def test_bad_number(self):
        for number in not_integers() + [-1, 10, 11, 10 ** 5000]:
            self.fails(BadNumber, number, self.flow.uses, number)
            self.fails(BadNumber, number, self.flow.formula, number)

    def test_words(self):
        values = {"x": 5, "b": 250, "more": None}
        self.assertEqual(self.flow.words(8, values), [5, 3, 8, 254, 64, 2, 0, 250, 2, 226])
        self.assertEqual(values, {"x": 5, "b": 250, "more": None})
        self.assertEqual(Flow([("set", 2 ** 64 - 1), ("shl", 0, 64)], [0]).words(64, None), [2 ** 64 - 1, 0])
        self.assertEqual(Flow([("set", 2 ** 64 - 1), ("shl", 0, 0)], [0]).words(3, {}), [7, 7])
        self.assertEqual(Flow([("set", 2)], [0]).words(1, {}), [0])
        self.fresh(lambda: self.flow.words(8, values))

    def test_words_by_lot(self):
        lot = by_lot(121)
        for _ in range(60):
            flow = flow_by_lot(lot, lot.randrange(1, 12))
            width = lot.randrange(1, 3)
            for values in inputs_of(["x", "y"], width):
                self.assertEqual(flow.words(width, values), [slow_told(flow.formula(number), width, values)[0]
                                                            for number in range(len(flow))])

    def test_words_wrong(self):
        for width in not_widths():
            self.fails(BadWidth, width, self.flow.words, width, None)
        for values in any_things():
            self.fails(BadValue, "b", self.flow.words, 8, values)
        for word in not_integers() + [-1, 256]:
            self.fails(BadValue, "b", self.flow.words, 8, {"x": word, "b": word})
            self.fails(BadValue, "x", self.flow.words, 8, {"x": word, "b": 255})


class FlowOf(Case):
    def flow(self, lets, outs, operations, wants, inputs=("x", "n"), width=8, defs=()):
        found = flow_of(Program(width, inputs, defs, lets, outs))
        self.assertEqual(found, Flow(operations, wants))

    def test_ordinary(self):
        self.flow([("a", X * N + Number(3)), ("b", (A << 2) - X), ("c", -B)], ["c", "a"],
                  [("input", "x"), ("input", "n"), ("mul", 0, 1), ("set", 3), ("add", 2, 3), ("shl", 4, 2), ("sub", 5, 0),
                   ("neg", 6)], [7, 4])

    def test_arguments_from_left_to_right(self):
        self.flow([("a", (N - X) * (Number(1) + N))], ["a"],
                  [("input", "n"), ("input", "x"), ("sub", 0, 1), ("set", 1), ("add", 3, 0), ("mul", 2, 4)], [5])

    def test_bare_lets(self):
        self.flow([("a", N), ("b", A), ("c", Number(7)), ("d", B + Name("c")), ("e", Number(7))], ["d", "b", "e", "n"],
                  [("input", "n"), ("set", 7), ("add", 0, 1)], [2, 0, 1])
        self.flow([("a", X)], ["a"], [("input", "x")], [0])
        self.flow([("a", Number(7))], ["a", "x"], [("set", 7), ("input", "x")], [0, 1])

    def test_unused_lets_and_inputs_that_are_nowhere(self):
        self.flow([("a", X + X), ("b", Number(3)), ("c", Number(4))], ["c"],
                  [("input", "x"), ("add", 0, 0), ("set", 3), ("set", 4)], [3])
        self.flow([], ["n"], [("input", "n")], [0])
        self.flow([("a", X)], ["n"], [("input", "x"), ("input", "n")], [1])

    def test_numbers_modulo_the_width(self):
        self.flow([("a", Number(259) + Number(3) + Number(10 ** 29))], ["a"],
                  [("set", 3), ("add", 0, 0), ("set", 10 ** 29 % 256), ("add", 1, 2)], [3])
        self.flow([("a", Number(2 ** 64 + 5) - Number(2 ** 64 - 1))], ["a"],
                  [("set", 5), ("set", 2 ** 64 - 1), ("sub", 0, 1)], [2], width=64)
        self.flow([("a", Number(3) + Number(2))], ["a"], [("set", 1), ("set", 0), ("add", 0, 1)], [2], width=1)
        self.flow([("a", X << 64)], ["a"], [("input", "x"), ("shl", 0, 64)], [1], width=1)

    def test_what_stands_there_is_taken_once(self):
        self.flow([("a", (X + N) * (X + N)), ("b", X + N), ("c", N + X), ("d", A - B)], ["d", "b", "c"],
                  [("input", "x"), ("input", "n"), ("add", 0, 1), ("mul", 2, 2), ("add", 1, 0), ("sub", 3, 2)], [5, 2, 4])
        self.flow([("a", X + N), ("b", X + N)], ["b", "a"], [("input", "x"), ("input", "n"), ("add", 0, 1)], [2])

    def test_calls(self):
        defs = [("f", ("p", "q"), P - Name("q") * Name("q"))]
        self.flow([("a", Call("f", [N, Call("f", [X, N])]))], ["a"],
                  [("input", "n"), ("input", "x"), ("mul", 0, 0), ("sub", 1, 2), ("mul", 3, 3), ("sub", 0, 4)], [5],
                  defs=defs)

    def test_it_need_not_be_small(self):
        found = flow_of(Program(8, ["x"], (), [("a", big_power("x", 128)), ("b", big_power("a", 128))], ["b"]))
        self.assertEqual(len(found), 15)

    def test_by_lot(self):
        lot = by_lot(122)
        seen = 0
        for _ in range(300):
            made = plain_by_lot(lot, lot.randrange(1, 3))
            try:
                found = flow_of(made)
            except (HasSum, TooMany):
                continue
            seen += 1
            for values in inputs_of(["x", "n"], made.width):
                words = found.words(made.width, values)
                told = run(made, values)
                self.assertEqual({words[number] for number in found.wants}, set(told.values()))
        self.assertGreater(seen, 100)

    def test_40_values_and_more(self):
        numbers = [("a", Number(0))] + [("abcdefgh"[at // 8] + "abcdefgh"[at % 8], Number(at)) for at in range(1, 40)]
        found = flow_of(Program(64, ["x"], (), numbers, ["a"]))
        self.assertEqual(len(found), 40)
        self.fails(TooMany, None, flow_of, Program(64, ["x"], (), numbers, ["a", "x"]))
        self.fails(TooMany, None, flow_of, Program(64, ["x"], (), numbers + [("b", Number(40))], ["a"]))
        self.assertEqual(flow_of(Program(64, ["x"], (), numbers + [("b", Number(39))], ["b", "a"])).wants, (39, 0))

    def test_wrong(self):
        for thing in not_programs():
            self.fails(BadProgram, thing, flow_of, thing)
        summed = Sum("i", N, X)
        choice = Choice(X, X, X, X)
        program = lambda *lets: Program(8, ["x", "n"], [("f", ("p",), Sum("i", P, P)), ("g", ("p",), P)],
                                        list(zip("abcd", lets)), ["x"])
        self.fails(NotPlain, 1, flow_of, program(summed, choice, choice))
        self.fails(TooMany, None, flow_of, too_large())
        self.fails(HasSum, "b", flow_of, program(X, X + summed, summed))
        self.fails(HasSum, "b", flow_of, program(X, Call("f", [N]), summed))
        self.fails(HasSum, "b", flow_of, program(X, Call("g", [Sum("j", Number(0), X)])))
        self.assertEqual(len(flow_of(program(X, Call("g", [X])))), 1)
        # A sum goes ahead of too many values.
        many = [("abcdefgh"[at // 8] + "abcdefgh"[at % 8] + "x", Number(at)) for at in range(45)]
        made = Program(64, ["x", "n"], (), many + [("b", summed)], ["x"])
        self.fails(HasSum, "b", flow_of, made)
