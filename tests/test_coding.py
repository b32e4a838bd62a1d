"""Making code: [47] and [48]."""

from samewords.codes import FORMS, code_outs, is_code
from samewords.coding import code_of, code_of_order
from samewords.errors import BadCount, BadOrder, BadProgram, NotPlain, TooMany
from samewords.flows import Flow, flow_of
from samewords.formulas import Call, Name, Number, Sum
from samewords.meaning import is_small
from samewords.orders import need
from samewords.programs import Choice, Program
from samewords.reading import read_back
from samewords.right import is_right
from samewords.tables import table
from tests.helper import X, Case, any_things, big_power, by_lot, inputs_of, not_integers, not_programs, plain_by_lot, slow_run
from tests.test_flows import flow_by_lot
from tests.test_machine import slow_outputs
from tests.test_orders import order_by_lot
from tests.test_plain import too_large

N = Name("n")
I = Name("i")
J = Name("j")
K = Name("k")
FLOW = Flow([("input", "x"), ("input", "y"), ("add", 0, 1), ("mul", 2, 0), ("neg", 1), ("sub", 3, 2)], [5, 2])
ORDER = (0, 1, 2, 3, 4, 5)
SPILL = ("store", "load")
LETTERS = "abcdefghijklmnopqrstuvwxyz"


def highest_register(code):
    return max(operand for one in code for kind, operand in zip(FORMS[one[0]], one[1:]) if kind in ("written", "read", "counter"))


def let_name(at):
    return "l" + LETTERS[at // 26] + LETTERS[at % 26]


def words_of(code):
    return [one[0] for one in code]


def deep_sum(deep):
    """A sum in which so many sums stand in one another; each index is a bound of the next one."""
    names = ["n"] + ["i" + letter for letter in "abcdefghijklmnop"]
    found = Name(names[deep])
    for at in range(deep, 0, -1):
        found = Sum(names[at], Name(names[at - 1]), found)
    return found


def together(formulas):
    """The sum of formulas, put together so that it is not deep."""
    while len(formulas) > 1:
        formulas = [formulas[at] + formulas[at + 1] if at + 1 < len(formulas) else formulas[at]
                    for at in range(0, len(formulas), 2)]
    return formulas[0]


class OfOrders(Case):
    def right(self, flow, order, many, plain):
        code = code_of_order(flow, order, many)
        self.assertIs(is_code(code), True)
        self.assertNotIn("loop", words_of(code))
        self.assertLess(highest_register(code), many)
        self.assertEqual(code_outs(code), list(range(len(flow.wants))))
        steps = [flow.operations[number][0] for number in order]
        self.assertEqual([word for word in words_of(code) if word not in SPILL + ("out", "copy")], steps)
        if plain:
            self.assertEqual(words_of(code), steps + ["out"] * len(flow.wants))
            self.assertEqual([one[1] for one in code[len(flow):]], list(range(len(flow.wants))))
        else:
            self.assertTrue(set(words_of(code)) & set(SPILL))
        return code

    def test_ordinary(self):
        self.assertEqual(need(FLOW, ORDER), 3)
        for many in range(3, 17):
            code = self.right(FLOW, ORDER, many, True)
            self.assertEqual(slow_outputs(code, 8, {"x": 5, "y": 3}), {0: 32, 1: 8})
        code = self.right(FLOW, ORDER, 2, False)
        self.assertEqual(slow_outputs(code, 8, {"x": 5, "y": 3}), {0: 32, 1: 8})
        self.assertEqual(slow_outputs(self.right(FLOW, (1, 4, 0, 2, 3, 5), 2, True), 8, {"x": 5, "y": 3}), {0: 32, 1: 8})

    def test_each_operation(self):
        flow = Flow([("input", "x"), ("set", 2 ** 64 - 1), ("add", 0, 0), ("sub", 2, 1), ("mul", 3, 3), ("neg", 4), ("shl", 5, 64),
                     ("shl", 5, 0), ("add", 7, 1)], [8, 6])
        for many in range(2, 17):
            code = self.right(flow, tuple(range(9)), many, need(flow, tuple(range(9))) <= many)
            for x in (0, 3, 2 ** 64 - 1):
                words = flow.words(64, {"x": x})
                self.assertEqual(slow_outputs(code, 64, {"x": x}), {0: words[8], 1: words[6]})

    def test_one_value(self):
        for value in (("input", "x"), ("set", 7)):
            code = self.right(Flow([value], [0]), (0,), 2, True)
            self.assertEqual(slow_outputs(code, 8, {"x": 9}), {0: 9 if value[0] == "input" else 7})

    def test_by_lot(self):
        """With just as many registers as the order needs, with fewer down to 2, and with more."""
        lot = by_lot(241)
        for many in list(range(1, 13)) * 2 + [20, 30, 40] * 3:
            flow = flow_by_lot(lot, many)
            order = order_by_lot(lot, flow)
            most = need(flow, order)
            for count in sorted({2, 3, max(2, min(most - 1, 16)), max(2, min(most, 16)), max(2, min(most + 1, 16)), 16}):
                code = self.right(flow, order, count, most <= count)
                width = lot.choice([1, 8, 64])
                values = {name: lot.randrange(2 ** width) for name in flow.input_names()}
                words = flow.words(width, values)
                self.assertEqual(slow_outputs(code, width, values), {at: words[one] for at, one in enumerate(flow.wants)})
                try:
                    formulas = [flow.formula(number) for number in flow.wants]
                    told = read_back(code, width)
                except TooMany:
                    continue
                for at, formula in enumerate(formulas):
                    if is_small(formula):
                        self.assertEqual(told[at], table(formula, width))

    def test_eight_wants(self):
        flow = Flow([("set", at) for at in range(8)], list(range(7, -1, -1)))
        order = tuple(range(8))
        self.assertEqual(need(flow, order), 8)
        for many in (2, 7, 8, 16):
            self.assertEqual(slow_outputs(self.right(flow, order, many, many >= 8), 8, {}), {at: 7 - at for at in range(8)})

    def test_wrong(self):
        for order in any_things() + [list(ORDER), (0, 2, 1, 3, 4, 5), ORDER[:5], ORDER + (5,)]:
            self.fails(BadOrder, order, code_of_order, FLOW, order, None)
        for many in not_integers() + [0, 1, 17, -2, 10 ** 5000]:
            self.fails(BadCount, many, code_of_order, FLOW, ORDER, many)


class OfPrograms(Case):
    def program(self, *lets, outs=None, width=8, inputs=("x", "n"), defs=()):
        return Program(width, inputs, defs, [(let_name(at), let) for at, let in enumerate(lets)], outs or ["laa"])

    def right(self, program, least):
        """The codes with the least count of registers, with one more, and with 16; one less is too few."""
        for many in sorted({least, min(least + 1, 16), 16}):
            code = code_of(program, many)
            self.assertIs(is_code(code), True)
            self.assertLess(highest_register(code), many)
            self.assertIs(is_right(program, code), True)
            self.assertEqual(code_of(program, many), code)
        for many in (least - 1, 17):
            self.fails(BadCount, many, code_of, program, many)
        return code_of(program, least)

    def test_without_sums(self):
        code = self.right(self.program((X + N) * (X - N), -X << 3, outs=["lab", "laa", "x"]), 2)
        self.assertNotIn("loop", words_of(code))
        self.assertEqual(slow_outputs(code, 8, {"x": 7, "n": 2}), {0: 200, 1: 45, 2: 7})

    def test_sums(self):
        for deep in range(4):
            program = self.program(deep_sum(deep), deep_sum(deep) * X - N, outs=["lab", "laa"])
            code = self.right(program, deep + 2)
            self.assertEqual(words_of(code).count("loop"), 2 * deep)
            for n in range(5):
                self.assertEqual(slow_outputs(code, 8, {"x": 3, "n": n}),
                                 dict(enumerate(slow_run(program, {"x": 3, "n": n}).values())))

    def test_sums_too_deep(self):
        program = self.program(deep_sum(4))
        for many in (5, 4, 2, 17):
            self.fails(BadCount, many, code_of, program, many)
        for many in (6, 7, 16):
            self.fails(TooMany, None, code_of, program, many)
        # From 15 on no count is right.
        for deep, many in ((14, 16), (15, 16), (15, 17)):
            sums = X
            for letter in LETTERS[:deep]:
                sums = Sum("j" + letter, Number(2), sums)
            self.fails(TooMany if deep == 14 else BadCount, None if deep == 14 else many, code_of, self.program(sums), many)

    def test_sums_side_by_side_and_in_one_another(self):
        inner = Sum("j", I, J + X) - Sum("j", Number(3), J * I)
        self.right(self.program(Sum("i", N, inner * inner) + Sum("i", Number(300), I) * (Sum("j", X, J) + Sum("i", X, I + N))), 4)
        self.right(self.program(Sum("i", N, Sum("j", N, Sum("k", X, I * J + K)) - I * Sum("k", I, K))), 5)
        self.right(self.program(Sum("i", N, I)), 3)
        self.right(self.program(Sum("i", N, Number(1)) + Sum("i", N, X)), 3)
        self.right(self.program(Sum("i", Number(0), I + X)), 3)
        self.right(self.program(Sum("i", Number(2 ** 64 + 5), I + X)), 3)

    def test_lets_of_sums_in_sums_of_others(self):
        """The name of a let in a sum is no sum there."""
        A, B, C = Name("laa"), Name("lab"), Name("lac")
        lets = [Sum("i", N, I), Sum("i", N, A + I), Sum("j", N, Sum("i", J, B - A) * A), Sum("i", Number(3), C) + B]
        program = self.program(*lets, outs=["lad", "lac"])
        code = self.right(program, 4)
        for n in range(4):
            self.assertEqual(slow_outputs(code, 8, {"x": 0, "n": n}), dict(enumerate(slow_run(program, {"x": 0, "n": n}).values())))

    def test_calls(self):
        defs = [("f", ("p", "q"), Sum("k", Name("p"), Name("q") + Name("k"))),
                ("g", ("p",), Call("f", [Name("p"), Call("f", [Name("p"), Name("p")])]))]
        # Laid in, the sum in the thing of a call stands in the sum of its def.
        self.right(self.program(Call("g", [N]), defs=defs), 4)
        self.right(self.program(Sum("i", N, Call("g", [I])), defs=defs), 5)
        self.right(self.program(X, defs=defs), 2)

    def test_outs_that_are_inputs(self):
        self.right(Program(8, ("x", "y"), (), (), ["y", "x"]), 2)
        self.right(self.program(X, N, outs=["n", "laa", "x", "lab"]), 2)
        self.right(Program(8, (), (), [("a", Number(5))], ["a"]), 2)

    def test_great_numbers(self):
        for number in (2 ** 64 - 1, 2 ** 64, 2 ** 64 + 3, 10 ** 30 - 1):
            for width in (1, 8, 64):
                self.right(self.program(X * Number(number) + Sum("i", Number(number), I), width=width), 3)

    def test_eight_outs(self):
        lets = [X << at for at in range(8)]
        self.right(self.program(*lets, outs=["la" + letter for letter in "hbcdefga"]), 2)

    def test_200_parts(self):
        """Formulas of 200 parts together never need too much."""
        pairs = together([(X + N) * (X - N) for _ in range(25)])
        self.assertEqual(pairs.parts, 199)
        self.right(self.program(pairs), 2)
        sums = [Sum("i", N, Sum("j", N, Sum("k", N, K))) for _ in range(50)]
        self.right(self.program(*sums, outs=["la" + letter for letter in "abcdefgh"]), 5)
        one = Sum("i", N, together([Sum("j", N, Sum("k", X, K)) for _ in range(49)]))
        self.assertEqual(one.parts, 196)
        self.right(self.program(one, X), 5)
        lets = [Sum("i", N, I + Name(let_name(at - 1)) if 0 < at < 4 else I) for at in range(60)]
        lets[59] = together([Name(let_name(at)) for at in range(35)])
        self.assertLessEqual(sum(let.parts for let in lets), 200)
        program = self.program(*lets, outs=["lch", "lcg", "laa", "lab", "x", "n", "lbz", "lac"])
        self.right(program, 3)
        slanted = X
        for at in range(19):
            slanted = (X + N) - (Sum("i", N, I) + slanted) if at % 2 else -(slanted + (X + N))
        self.assertLessEqual(slanted.depth, 40)
        self.right(self.program(slanted), 3)

    def test_large_tables(self):
        """Programs whose tables have 400 rows, and numbers up to 12."""
        factors = [big_power(name, many) for name, many in zip("abcd", (3, 3, 4, 4))]
        lets = factors + [(factors[0] + Number(1)) * (factors[1] + Number(1)) * (factors[2] + Number(1)) * (factors[3] + Number(1))]
        self.right(Program(64, tuple("abcd"), (), [(let_name(at), let) for at, let in enumerate(lets)], ["lae"]), 2)
        self.right(Program(64, ("n",), (), [("a", Sum("i", N, big_power("i", 11)))], ["a"]), 3)
        self.right(Program(64, ("n",), (), [("a", Sum("i", Number(10 ** 20), big_power("i", 12)) * big_power("n", 12))], ["a"]), 3)

    def test_more_than_2000_instructions(self):
        many = [together([X * N for _ in range(70)]) for _ in range(59)]
        all_of_them = together([Name(let_name(at)) for at in range(59)])
        self.fails(TooMany, None, code_of, self.program(*many, all_of_them, outs=["lch"]), 2)
        self.fails(BadCount, 1, code_of, self.program(*many, all_of_them, outs=["lch"]), 1)
        # One more negation is one more instruction.
        less = many[:3] + [X] * 56 + [all_of_them]
        more = 2000 - len(code_of(self.program(*less, outs=["lch"]), 2))
        for at in range(more):
            less[3 + at % 56] = -less[3 + at % 56]
        self.assertEqual(len(self.right(self.program(*less, outs=["lch"]), 2)), 2000)
        less[0] = -less[0]
        self.fails(TooMany, None, code_of, self.program(*less, outs=["lch"]), 2)
        # What nobody uses is not needed.
        self.right(self.program(*many, all_of_them, outs=["lca"]), 2)

    def test_by_lot(self):
        lot = by_lot(242)
        seen = 0
        for _ in range(250):
            program = plain_by_lot(lot, lot.choice([1, 2, 8, 64]), lot.randrange(1, 8))
            try:
                code = code_of(program, 16)
            except TooMany:
                continue
            self.assertIs(is_right(program, code), True)
            seen += "loop" in words_of(code)
            if program.width <= 2:
                for values in inputs_of(program.inputs, program.width):
                    self.assertEqual(slow_outputs(code, program.width, values), dict(enumerate(slow_run(program, values).values())))
        self.assertGreater(seen, 30)

    def test_a_flow_and_its_program(self):
        program = self.program((X + N) * X, Name("laa") - N, outs=["lab", "laa"])
        flow = flow_of(program)
        for many in (2, 3, 4):
            self.assertIs(is_right(program, code_of_order(flow, tuple(range(len(flow))), many)), True)

    def test_wrong(self):
        for thing in not_programs():
            self.fails(BadProgram, thing, code_of, thing, None)
        self.fails(NotPlain, 1, code_of, self.program(X, Choice(X, X, X, X)), None)
        self.fails(TooMany, None, code_of, too_large(), None)
        self.fails(TooMany, None, code_of, self.program(big_power("x", 13)), None)
        for many in not_integers() + [0, 1, 17, -2, 10 ** 5000]:
            self.fails(BadCount, many, code_of, self.program(X), many)
