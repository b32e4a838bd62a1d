"""Making programs and what is wrong with them: [20], [21], and is_plain of [24]."""

from samewords.errors import BadFormula, BadProgram, BadWidth
from samewords.formulas import Call, Name, Number, Sum
from samewords.programs import Choice, Program, is_plain, run
from tests.helper import (X, Y, Case, any_things, not_formulas, not_names, not_programs, not_rows, not_widths)

N = Name("n")
I = Name("i")
P = Name("p")
Q = Name("q")
A = Name("a")
TWICE = ("twice", ("p",), P + P)
UPTO = ("upto", ("p", "q"), Sum("i", P, I * Q))


def program(inputs=("x", "n"), defs=(TWICE, UPTO), lets=(), outs=("x",), width=8):
    return Program(width, inputs, defs, lets, outs)


class Making(Case):
    def right(self, **parts):
        made = program(**parts)
        for name, given in parts.items():
            kept = getattr(made, name)
            self.assertEqual(kept, given if name == "width" else tuple(given))
        return made

    def wrong(self, word, at, **parts):
        self.fails(BadProgram, (word, at), lambda one: program(**one), parts)

    def let_is_right(self, value, **parts):
        self.right(lets=[("a", X), ("b", value)], **parts)

    def let_is_wrong(self, value, **parts):
        self.wrong("let", 1, lets=[("a", X), ("b", value)], **parts)

    def def_is_wrong(self, item, **parts):
        self.wrong("def", 2, defs=[TWICE, UPTO, item], **parts)

    def def_is_right(self, item, **parts):
        return self.right(defs=[TWICE, UPTO, item], **parts)

    def test_attributes(self):
        made = Program(64, ["x", "n"], [TWICE], [("a", Call("twice", [X])), ("b", Choice(A, X, N, A))], ["b", "x"])
        self.assertEqual(vars(made)["width"], 64)
        self.assertEqual(made.inputs, ("x", "n"))
        self.assertEqual(made.defs, (TWICE,))
        self.assertEqual(made.lets, (("a", Call("twice", [X])), ("b", Choice(A, X, N, A))))
        self.assertEqual(made.outs, ("b", "x"))
        for name in ("width", "inputs", "defs", "lets", "outs"):
            self.assertIn(name, vars(made))
        self.assertTrue({"laid", "__eq__"} <= set(vars(Program)))
        self.assertIn("__eq__", vars(Choice))
        self.right(inputs=(), defs=(), lets=[("a", Number(3))], outs=("a",))

    def test_copies(self):
        inputs, defs, lets, outs = ["x"], [TWICE], [("a", X)], ["a"]
        made = Program(8, inputs, defs, lets, outs)
        same = Program(8, tuple(inputs), tuple(defs), tuple(lets), tuple(outs))
        for row in (inputs, defs, lets, outs):
            row.append("more")
            row[0] = None
        self.assertEqual(made, same)
        self.assertEqual(made.lets, (("a", X),))

    def test_width(self):
        for width in (1, 64):
            self.right(width=width)
        for width in not_widths() + [0, 65]:
            self.fails(BadWidth, width, Program, width, None, None, None, None)

    def test_inputs(self):
        self.right(inputs=["a", "b", "c", "d"], outs=["a"])
        for inputs in not_rows() + [["a", "b", "c", "d", "e"], [None] * 5]:
            self.wrong("in", -1, inputs=inputs, defs=None)
        for name in not_names() + ["x"]:
            self.wrong("in", 1, inputs=["x", name, None], defs=None)
        self.wrong("in", 0, inputs=["in", "in"])

    def test_defs(self):
        self.right(defs=[(chr(97 + at) * 3, ("p",), P) for at in range(20)])
        self.wrong("def", -1, defs=[(chr(97 + at) * 3, ("p",), P) for at in range(21)], lets=None)
        for defs in not_rows():
            self.wrong("def", -1, defs=defs, lets=None)
        for item in any_things() + [("f", ("p",)), ("f", ("p",), P, P), ["f", ("p",), P]]:
            self.def_is_wrong(item)
        for name in not_names() + ["x", "n", "twice", "upto"]:
            self.def_is_wrong((name, ("p",), P))
        self.def_is_right(("f", ("a", "b", "c", "d"), A))
        for parameters in any_things() + [(), ["p"], ("p",) * 2, ("a", "b", "c", "d", "e"), ("p", "q", "p")]:
            if parameters not in (("x",),):
                self.def_is_wrong(("f", parameters, Number(3)))
        for name in not_names():
            self.def_is_wrong(("f", ("p", name), Number(3)))
        for body in not_formulas() + [X, P + X, Name("twice"), Sum("i", X, P), Choice(P, P, P, P)]:
            self.def_is_wrong(("f", ("p",), body))

    def test_parameters_may_be_called_like_other_things(self):
        made = self.def_is_right(("f", ("x", "twice", "b", "f"), X + Name("twice") + Name("b") + Name("f")),
                                 lets=[("b", Call("f", [X, X, N, N]))])
        self.assertEqual(run(made, {"x": 3, "n": 5}), {"x": 3})
        # Within a def its parameters count as parameters alone, whatever else has their names.
        self.def_is_right(("f", ("b",), Sum("i", Name("b"), I)), lets=[("b", X)])

    def test_calls(self):
        self.def_is_right(("f", ("p",), Call("twice", [Call("upto", [P, Call("twice", [P * P])])])))
        self.let_is_right(Call("twice", [A]))
        self.let_is_right(Choice(X, Call("twice", [A]), A, X))
        self.def_is_right(("f", ("p",), Call("twice", (Call("twice", [P]) + Call("twice", [Number(3)]),))))
        for call in (Call("twice", [X, X]), Call("upto", [X]), Call("f", [X]), Call("none", [X]), Call("x", [X]),
                     Call("b", [X]), Call("a", [X]), Call("upto", [X, X, X])):
            self.let_is_wrong(call)
            self.let_is_wrong(X + call)
            self.let_is_wrong(Sum("j", N, call))
            self.let_is_wrong(Call("twice", [call]))
            self.let_is_wrong(Choice(X, X, X, call))
        for call in (Call("twice", [P, P]), Call("f", [P]), Call("later", [P]), Call("p", [P])):
            self.wrong("def", 2, defs=[TWICE, UPTO, ("f", ("p",), P - call), ("later", ("p",), P)])

    def test_lets(self):
        names = [chr(97 + at // 20) + chr(97 + at % 20) for at in range(61)]
        self.right(lets=[(name * 2, X) for name in names[:60]])
        self.wrong("let", -1, lets=[(name * 2, X) for name in names], outs=None)
        for lets in not_rows():
            self.wrong("let", -1, lets=lets, outs=None)
        for item in any_things() + [("b",), ("b", X, X), ["b", X]]:
            self.wrong("let", 1, lets=[("a", X), item, None], outs=None)
        for name in not_names() + ["x", "n", "a", "twice", "upto"]:
            self.wrong("let", 1, lets=[("a", X), (name, X)], outs=None)
        for value in not_formulas() + [Y, Name("b"), Name("c"), P, Name("twice"), I, (X, X, X, X)]:
            if not isinstance(value, Choice):
                self.wrong("let", 1, lets=[("a", X), ("b", value), ("c", X)], outs=None)
        self.let_is_right(A + X * N)

    def test_choices(self):
        self.let_is_right(Choice(A, X, N, Sum("i", N, I)))
        for at in range(4):
            formulas = [X, X, X, X]
            formulas[at] = Name("b")
            self.let_is_wrong(Choice(*formulas))

    def test_outs(self):
        lets = [("abcdef"[at], X) for at in range(6)]
        self.right(lets=lets, outs=["x", "n"] + [name for name, _ in lets])
        self.right(lets=lets + [("g", X)], outs=["g"])
        self.wrong("out", -1, lets=lets + [("g", X)], outs=["x", "n", "a", "b", "c", "d", "e", "f", "g"])
        for outs in not_rows() + [[], ()]:
            self.wrong("out", -1, outs=outs)
        for name in not_names() + ["twice", "p", "i", "y", "x"]:
            self.wrong("out", 1, outs=["x", name, None])

    def test_indexes(self):
        self.let_is_right(Sum("i", N, I))
        self.let_is_right(Sum("i", N, I) + Sum("i", X, Sum("j", I, I)))
        for index in ("x", "twice", "upto", "p", "q", "a", "b", "c"):
            self.wrong("let", 1, lets=[("a", X), ("b", Sum(index, N, X)), ("c", X)])
            self.wrong("let", 1, lets=[("a", X), ("b", X - Sum(index, Number(3), Number(3))), ("c", X)])
            self.wrong("let", 1, lets=[("a", X), ("b", Call("twice", [Sum(index, N, X)])), ("c", X)])
            self.wrong("def", 2, defs=[TWICE, UPTO, ("f", ("y",), Y - Sum(index, Number(3), Y))],
                       lets=[("a", X), ("b", X), ("c", X)])
        self.wrong("def", 1, defs=[TWICE, ("f", ("y",), Sum("later", Y, Y)), ("later", ("z",), Name("z"))])
        self.wrong("def", 0, defs=[("f", ("y",), Sum("z", Y, Y)), ("later", ("z",), Name("z"))])
        self.wrong("def", 0, defs=[("f", ("y",), Sum("f", Y, Y))])

    def test_what_bounds_a_sum_in_a_let(self):
        self.let_is_right(Sum("i", N, X))
        self.let_is_right(Sum("i", Number(10 ** 29), A))
        self.let_is_right(Sum("i", N, Sum("j", I, A)))
        self.let_is_wrong(Sum("i", A, X))
        self.let_is_wrong(Sum("i", N, Sum("j", A, X)))
        self.let_is_wrong(Sum("i", N, X) + Sum("j", I, X))
        self.let_is_wrong(Choice(X, X, X, Sum("i", A, X)))

    def test_what_is_handed_to_what_bounds_a_sum(self):
        self.let_is_right(Call("upto", [N, A * A]))
        self.let_is_right(Call("upto", [Number(7), Sum("j", N, A)]))
        self.let_is_right(Sum("j", X, Call("upto", [Name("j"), A])))
        self.let_is_right(Sum("j", X, Call("twice", [Call("upto", [Name("j"), A])])))
        for thing in (A, -N, N + Number(0), N << 0, Call("twice", [N]), Sum("j", N, N), Name("j")):
            self.let_is_wrong(Call("upto", [thing, X]))
            self.let_is_wrong(X + Call("twice", [Call("upto", [thing, X])]))
        self.let_is_wrong(Sum("j", X, Call("upto", [Name("j") + N, A])))

    def test_handed_on(self):
        on = ("on", ("r", "s"), Call("upto", [Name("s"), Name("r")]))
        further = ("further", ("r", "s", "t"), Call("twice", [Call("on", [Name("s"), Name("t")])]))
        around = ("around", ("r",), Sum("j", Number(3), Call("upto", [Name("j"), Name("r")])))
        defs = [TWICE, UPTO, on, further, around]
        for call in (Call("on", [A, N]), Call("further", [A, A, N]), Call("further", [A, -A, Number(3)]),
                     Call("around", [A]), Call("on", [Call("on", [A, N]), N])):
            self.let_is_right(call, defs=defs)
        for call in (Call("on", [N, A]), Call("further", [N, N, A]), Call("further", [N, N, N + N]),
                     Call("on", [N, Call("on", [A, N])])):
            self.let_is_wrong(call, defs=defs)
        for body in (Call("upto", [P + P, P]), Call("upto", [Call("twice", [P]), P]), Call("upto", [-P, P])):
            self.def_is_wrong(("f", ("p",), body))
        self.def_is_right(("f", ("p",), Call("upto", [Number(3), P + P])))
        self.def_is_right(("f", ("p",), Sum("j", P, Call("upto", [Name("j"), P]))))
        # A parameter that is handed on to what bounds nothing does not bound.
        self.let_is_right(Call("f", [A + A]), defs=[TWICE, UPTO, ("f", ("p",), Call("upto", [Number(3), P]))])

    def test_the_first_of_two_wrong_things(self):
        self.wrong("in", 1, inputs=["x", "x", 3], defs=[None], lets=[None], outs=[None])
        self.wrong("def", 0, defs=[None, None], lets=[None], outs=[None])
        self.wrong("def", 1, defs=[TWICE, TWICE], lets=None, outs=None)
        self.wrong("let", 0, lets=[None, None], outs=[None])
        self.wrong("let", 1, lets=[("a", X), ("a", X)], outs=["y"])
        self.wrong("out", 0, outs=["y", "y"])
        self.wrong("in", -1, inputs=None, defs=None, lets=None, outs=None)
        self.wrong("def", -1, defs=None, lets=None, outs=None)
        self.wrong("let", -1, lets=None, outs=None)
        self.fails(BadWidth, 0, Program, 0, ["x", "x"], None, None, None)

    def test_equal(self):
        parts = dict(inputs=("x", "n"), defs=(TWICE,), lets=(("a", Choice(X, X, N, X)),), outs=("a", "x"))
        one = program(**parts)
        self.assertEqual(one, program(**{key: list(row) for key, row in parts.items()}))
        for change in (dict(width=9), dict(inputs=("n", "x")), dict(inputs=("x", "n", "y")), dict(defs=()),
                       dict(defs=(TWICE, UPTO)), dict(lets=(("a", Choice(X, X, N, N)),)), dict(lets=(("a", X),)),
                       dict(outs=("x", "a")), dict(outs=("a",))):
            self.assertFalse(one == program(**{**parts, **change}))
            self.assertTrue(one != program(**{**parts, **change}))
        for thing in not_programs():
            self.assertFalse(one == thing)
            self.assertTrue(one != thing)


class Choices(Case):
    def test_attributes(self):
        made = Choice(X, Y, N, Call("f", [X]))
        self.assertEqual((made.left, made.right, made.same, made.other), (X, Y, N, Call("f", [X])))
        self.assertEqual(sorted(vars(made)), ["left", "other", "right", "same"])

    def test_wrong(self):
        for thing in not_formulas():
            self.fails(BadFormula, thing, Choice, thing, None, None, None)
            self.fails(BadFormula, thing, Choice, X, thing, 3, None)
            self.fails(BadFormula, thing, Choice, X, X, thing, "x")
            self.fails(BadFormula, thing, Choice, X, X, X, thing)

    def test_equal(self):
        self.assertEqual(Choice(X, Y, N, I), Choice(X, Y, N, I))
        for other in (Choice(Y, Y, N, I), Choice(X, X, N, I), Choice(X, Y, X, I), Choice(X, Y, N, X)):
            self.assertFalse(Choice(X, Y, N, I) == other)
        for thing in any_things():
            self.assertFalse(Choice(X, Y, N, I) == thing)


class Plain(Case):
    def test_is_plain(self):
        self.assertIs(is_plain(program()), True)
        self.assertIs(is_plain(program(lets=[("a", Call("twice", [X]))])), True)
        self.assertIs(is_plain(program(lets=[("a", X), ("b", Choice(A, X, X, X)), ("c", X)])), False)

    def test_wrong(self):
        for thing in not_programs():
            self.fails(BadProgram, thing, is_plain, thing)
            self.fails(BadProgram, thing, run, thing, None)
