"""Codes that are right: [46]."""

import itertools

from samewords.coding import code_of
from samewords.errors import BadCode, BadOuts, BadProgram, NotPlain, TooMany, Unreadable
from samewords.formulas import Name, Number, Sum
from samewords.plain import tables
from samewords.programs import Choice, Program
from samewords.right import is_right, is_right_paper, is_wrong_input, right_paper, wrong_input
from samewords.shapes import formula_of
from samewords.tables import Table
from tests.helper import (X, Y, Case, any_things, big_power, by_lot, inputs_of, large_things, not_codes, not_programs, plain_by_lot,
                          slow_run)
from tests.test_machine import AGAIN, slow_outputs
from tests.test_plain import too_large

N = Name("n")
I = Name("i")
A = Name("a")
# a is 0 * x + 1 * x + .. + (n - 1) * x, b is n.
PROGRAM = Program(8, ("x", "n"), (), [("a", Sum("i", N, I * X))], ["a", "n"])
CODE = (("input", 0, "n"), ("input", 1, "x"), ("loop", 2, 0), ("mul", 3, 2, 1), ("add", 4, 4, 3), AGAIN, ("out", 0, 4), ("out", 1, 0))
FUNCTIONS = (is_right, wrong_input, right_paper)
JUDGES = (is_wrong_input, is_right_paper)


def changed(at, instruction):
    return CODE[:at] + (instruction,) + CODE[at + 1:]


def slow_unlike(program, code):
    """The inputs at which the code tells something else, with the first out for which that is so there."""
    names = sorted(program.inputs)
    found = {}
    for values in inputs_of(names, program.width):
        words = list(slow_run(program, values).values())
        told = slow_outputs(code, program.width, values)
        for number, word in enumerate(words):
            if told[number] != word:
                found.setdefault(number, []).append(values)
    return found


def least(rows):
    return min(rows, key=lambda values: (sum(values.values()), [values[name] for name in sorted(values)]))


class Right(Case):
    def both(self, program, code, wrong):
        self.assertIs(is_right(program, code), wrong is None)
        self.assertEqual(wrong_input(program, code), wrong)
        if wrong is not None:
            self.assertIsNone(right_paper(program, code))
            self.assertIs(is_wrong_input(program, code, wrong), True)

    def test_right_and_wrong(self):
        self.both(PROGRAM, CODE, None)
        self.both(PROGRAM, changed(1, ("input", 1, "n")), (0, {"x": 0, "n": 2}))
        self.both(PROGRAM, changed(0, ("set", 0, 0)), (0, {"n": 2, "x": 1}))
        self.both(PROGRAM, changed(7, ("out", 1, 1)), (1, {"n": 0, "x": 1}))
        self.both(PROGRAM, changed(4, ("sub", 4, 4, 3)), (0, {"n": 2, "x": 1}))
        self.both(PROGRAM, CODE[:6] + (("out", 0, 0), ("out", 1, 4)), (0, {"n": 1, "x": 0}))
        self.both(PROGRAM, CODE[:6] + (("out", 1, 0), ("out", 0, 4)), None)

    def test_wrong_at_far_inputs_alone(self):
        # n * n and n differ by 2 * C(n, 2); shifted by 7 they differ nowhere, by 6 where C(n, 2) is odd.
        made = lambda program: Program(8, ("n",), (), [("a", program)], ["a"])
        code = (("input", 0, "n"), ("mul", 1, 0, 0), ("shl", 1, 1, 7), ("out", 0, 1))
        self.both(made(N << 7), code, None)
        self.both(made(N << 6), code[:2] + (("shl", 1, 1, 6), ("out", 0, 1)), (0, {"n": 2}))
        # 2 ** 63 * C(n, 12) is 0 for all n below 12.
        self.both(Program(64, ("n",), (), [("far", formula_of(Table(64, ("n",), {(12,): 2 ** 63})))], ["far"]),
                  (("set", 0, 0), ("out", 0, 0)), (0, {"n": 12}))
        self.both(made((big_power("n", 8) - big_power("n", 4)) << 7), (("set", 0, 0), ("out", 0, 0)), None)

    def test_inputs_that_are_nowhere(self):
        program = Program(8, ("z", "x"), (), (), ["x"])
        self.both(program, (("input", 0, "x"), ("out", 0, 0)), None)
        self.both(program, (("input", 0, "z"), ("out", 0, 0)), (0, {"x": 0, "z": 1}))
        self.both(program, (("set", 0, 1), ("out", 0, 0)), (0, {"x": 0, "z": 0}))
        self.both(Program(8, (), (), [("a", Number(257))], ["a"]), (("set", 0, 1), ("out", 0, 0)), None)
        self.both(Program(8, (), (), [("a", Number(257))], ["a"]), (("set", 0, 2), ("out", 0, 0)), (0, {}))

    def test_outs_in_their_order(self):
        program = Program(8, ("x", "y"), (), [("a", X + Y), ("b", X * Y)], ["b", "a", "y", "x"])
        code = (("input", 0, "x"), ("input", 1, "y"), ("mul", 2, 0, 1), ("add", 3, 0, 1), ("out", 0, 2), ("out", 1, 3), ("out", 2, 1),
                ("out", 3, 0))
        self.both(program, code, None)
        for at in range(4):
            wrong = list(code)
            wrong[4 + at] = ("out", at, 9)
            self.assertEqual(wrong_input(program, tuple(wrong))[0], at)
        # The first out goes ahead of one with a lesser input.
        self.assertEqual(wrong_input(program, code[:4] + (("out", 0, 9), ("out", 1, 9)) + code[6:]), (0, {"x": 1, "y": 1}))

    def test_by_lot(self):
        lot = by_lot(231)
        seen = 0
        for _ in range(60):
            program = plain_by_lot(lot, lot.choice([1, 2, 2]), 3)
            try:
                code = code_of(program, 16)
            except TooMany:
                continue
            self.both(program, code, None)
            for _ in range(6):
                at = lot.randrange(len(code))
                other = lot.choice([one for one in code if one[0] not in ("loop", "again", "out")] or [("set", 0, 1)])
                wrong = code[:at] + (other,) + code[at + 1:]
                try:
                    answer = wrong_input(program, wrong)
                except (BadCode, BadOuts, Unreadable, TooMany):
                    continue
                found = slow_unlike(program, wrong)
                self.assertEqual(answer, (min(found), least(found[min(found)])) if found else None)
                for number, values in itertools.product(range(len(program.outs)), inputs_of(program.inputs, program.width)):
                    self.assertIs(is_wrong_input(program, wrong, (number, values)), values in found.get(number, []))
                seen += bool(found)
        self.assertGreater(seen, 50)

    def test_is_wrong_input(self):
        code = changed(1, ("input", 1, "n"))
        self.assertIs(is_wrong_input(PROGRAM, code, (0, {"x": 7, "n": 3})), True)
        self.assertIs(is_wrong_input(PROGRAM, CODE, (0, {"x": 0, "n": 2})), False)
        second = changed(7, ("out", 1, 1))
        self.assertIs(is_wrong_input(PROGRAM, second, (1, {"x": 0, "n": 2})), True)
        self.assertIs(is_wrong_input(PROGRAM, second, (-1, {"x": 0, "n": 2})), False)
        for thing in any_things() + large_things() + [
                [0, {"x": 0, "n": 2}], (0, {"x": 0, "n": 2}, 0), (0,), (1, {"x": 0, "n": 2}), (2, {"x": 0, "n": 2}),
                (-1, {"x": 0, "n": 2}), (-2, {"x": 0, "n": 2}), (False, {"x": 0, "n": 2}), (0, {"n": 2}), (0, {"x": 0, "n": 2, "y": 0}), (0, {"x": 2, "n": 2}),
                (0, {"x": 0, "n": 258}), (0, {"x": False, "n": 2}), (0, {"x": 0, "n": None}), (0, [("x", 0), ("n", 2)]), (None, None),
                ("0", {"x": 0, "n": 2}), (10 ** 5000, {"x": 0, "n": 2}), (0, {"x": 0, "y": 2}), (0, None), ({"x": 0, "n": 2}, 0)]:
            self.assertIs(is_wrong_input(PROGRAM, code, thing), False)

    def test_new_dicts(self):
        self.fresh(lambda: wrong_input(PROGRAM, changed(1, ("input", 1, "n")))[1])
        self.fresh(lambda: right_paper(PROGRAM, CODE)[1])


class Papers(Case):
    PAPER = ((2, 1), {(0, 0): (0, 0), (0, 1): (0, 0), (1, 0): (0, 1), (1, 1): (0, 1), (2, 0): (0, 2), (2, 1): (1, 2)})

    def judged(self, answer, *things):
        for thing in things:
            self.assertIs(is_right_paper(PROGRAM, CODE, thing), answer)

    def test_ordinary(self):
        self.assertEqual(right_paper(PROGRAM, CODE), self.PAPER)
        self.judged(True, self.PAPER)
        one = Program(8, (), (), [("a", Number(257))], ["a"])
        code = (("set", 0, 1), ("out", 0, 0))
        self.assertEqual(right_paper(one, code), ((), {(): (1,)}))
        self.assertIs(is_right_paper(one, code, ((), {(): (1,)})), True)
        self.assertIs(is_right_paper(one, code, ((0,), {(0,): (1,)})), False)

    def words(self, ends):
        return {(n, x): (n * (n - 1) // 2 * x % 256, n) for n in range(ends[0] + 1) for x in range(ends[1] + 1)}

    def test_greater_ends(self):
        for ends in ((2, 1), (3, 1), (2, 2), (9, 39), (39, 9), (40, 8), (8, 40), (19, 19)):
            self.judged(True, (ends, self.words(ends)))
        for ends in ((1, 1), (2, 0), (10, 40), (40, 9), (41, 1), (2, 41), (20, 20), (0, 0), (-1, 1)):
            self.judged(False, (ends, self.words(ends)))
        self.judged(False, ([2, 1], self.words((2, 1))), ((2,), self.words((2, 1))), ((2, 1, 0), self.words((2, 1))),
                    ((2, True), self.words((2, 1))), ((2, None), self.words((2, 1))), ((2, 10 ** 5000), self.words((2, 1))))

    def test_ends_above_the_words(self):
        """An end above 2 ** width - 1 counts as that."""
        program = Program(2, ("x",), (), [("a", X * X * X)], ["a"])
        code = (("input", 0, "x"), ("mul", 1, 0, 0), ("mul", 1, 1, 0), ("out", 0, 1))
        words = {(0,): (0,), (1,): (1,), (2,): (0,), (3,): (3,)}
        self.assertEqual(right_paper(program, code), ((3,), words))
        for end in (3, 4, 5, 40):
            self.assertIs(is_right_paper(program, code, ((end,), words)), True)
        for end in (2, 41):
            self.assertIs(is_right_paper(program, code, ((end,), words)), False)
        four = Program(1, tuple("abcd"), (), [("e", Name("a") * Name("b") * Name("c") * Name("d"))], ["e"])
        paper = right_paper(four, code_of(four, 2))
        self.assertEqual(paper[0], (1, 1, 1, 1))
        self.assertIs(is_right_paper(four, code_of(four, 2), ((40, 40, 40, 40), paper[1])), True)

    def test_one_word_changed(self):
        ends, words = self.PAPER
        for row, told in words.items():
            self.judged(False, (ends, {**words, row: (told[0] + 1, told[1])}), (ends, {**words, row: (told[0] + 256, told[1])}),
                        (ends, {**words, row: list(told)}), (ends, {**words, row: told + (0,)}), (ends, {**words, row: told[:1]}),
                        (ends, {**words, row: None}), (ends, {**words, row: told[0]}), (ends, {**words, row: (told[0], None)}),
                        (ends, {one: words[one] for one in words if one != row}))
        self.judged(False, (ends, {**words, (3, 0): (0, 3)}), (ends, {**words, (0, 2): (0, 0)}), (ends, {**words, None: (0, 0)}),
                    (ends, {**words, (0, 0): (False, 0)}), (ends, {**words, (1, 0): (0, True)}), (ends, list(words.items())),
                    (ends, {}), (ends, None), (ends,), [ends, words], (ends, words, 0), (words, ends),
                    (ends, {(bool(n) if n < 2 else n, x): words[n, x] for n, x in words}))

    def test_any_things(self):
        self.judged(False, *any_things())
        self.judged(False, *large_things())
        self.judged(False, *[((2, 1), thing) for thing in any_things() + large_things()])
        self.judged(False, *[(thing, self.PAPER[1]) for thing in any_things() + large_things()])

    def test_a_wrong_code_has_no_paper(self):
        code = changed(4, ("sub", 4, 4, 3))
        self.assertIsNone(right_paper(PROGRAM, code))
        for paper in (self.PAPER, (self.PAPER[0], {row: (-told[0] % 256, told[1]) for row, told in self.PAPER[1].items()})):
            self.assertIs(is_right_paper(PROGRAM, code, paper), False)

    def test_boxes_of_400_rows_and_of_more(self):
        made = lambda *lets: Program(64, tuple("xyz"), (), lets, [name for name, _ in lets])
        # Degrees 7, 4, 9 have a box of 400 rows, with 1 more in z it has 440, though each let alone is small.
        lets = [("a", big_power("x", 7)), ("b", big_power("y", 4)), ("c", big_power("z", 9)), ("d", big_power("z", 10))]
        few = made(*lets[:3])
        paper = right_paper(few, code_of(few, 2))
        self.assertEqual((paper[0], len(paper[1])), ((7, 4, 9), 400))
        self.assertIs(is_right_paper(few, code_of(few, 2), paper), True)
        self.assertEqual(paper[1][7, 4, 9], (7 ** 7, 4 ** 4, 9 ** 9))
        more = made(lets[0], lets[1], lets[3])
        self.assertIs(is_right(more, code_of(more, 2)), True)
        self.fails(TooMany, None, right_paper, more, code_of(more, 2))
        self.assertIs(is_right_paper(more, code_of(more, 2), paper), False)
        # A wrong code is None ahead of it.
        self.assertIsNone(right_paper(more, code_of(few, 2)))

    def test_by_lot(self):
        lot = by_lot(232)
        seen = 0
        for _ in range(40):
            program = plain_by_lot(lot, lot.choice([1, 2, 3]), 4)
            try:
                code = code_of(program, 16)
                ends, words = right_paper(program, code)
            except TooMany:
                continue
            found = tables(program)
            self.assertEqual(ends, tuple(max(found[out].degree(name) for out in program.outs) for name in sorted(program.inputs)))
            self.assertEqual(words, {row: tuple(slow_run(program, dict(zip(sorted(program.inputs), row))).values())
                                     for row in itertools.product(*[range(end + 1) for end in ends])})
            self.assertIs(is_right_paper(program, code, (ends, words)), True)
            seen += 1
        self.assertGreater(seen, 30)


class Wrong(Case):
    def all_fail(self, error, value, program, code):
        for function in FUNCTIONS:
            self.fails(error, value, function, program, code)
        for judge in JUDGES:
            self.fails(error, value, judge, program, code, None)

    def test_programs(self):
        for thing in not_programs():
            self.all_fail(BadProgram, thing, thing, None)
        choice = Program(8, ("x",), (), [("a", X), ("b", Choice(X, X, X, X))], ["a"])
        self.all_fail(NotPlain, 1, choice, None)
        self.all_fail(TooMany, None, too_large(), None)
        self.all_fail(TooMany, None, Program(8, ("x",), (), [("a", big_power("x", 13))], ["x"]), None)

    def test_codes(self):
        for thing in not_codes():
            self.all_fail(BadCode, -1, PROGRAM, thing)
        self.all_fail(BadCode, 1, PROGRAM, (("out", 5, 0), AGAIN))

    def test_outs(self):
        for code in ((("set", 0, 0),), CODE[:7], CODE[:6] + (("out", 0, 4),), CODE[:6] + (("out", 1, 4), ("out", 2, 4)), CODE + (("out", 2, 0),),
                     CODE[:6] + (("out", 7, 4),), CODE + (("input", 0, "z"),), (("input", 0, "a"),) + CODE):
            self.all_fail(BadOuts, code, PROGRAM, code)
        # BadOuts goes ahead of Unreadable and of TooMany.
        lost = (("set", 0, 0), ("loop", 1, 0), AGAIN, ("out", 0, 1))
        self.all_fail(BadOuts, lost, PROGRAM, lost)
        self.all_fail(Unreadable, 3, PROGRAM, lost + (("out", 1, 0),))
        large = (("input", 0, "x"),) + (("mul", 0, 0, 0),) * 4
        wide = Program(64, ("x",), (), [("a", X)], ["a", "x"])
        self.all_fail(BadOuts, large, wide, large)
        self.all_fail(TooMany, None, wide, large + (("out", 0, 0), ("out", 1, 0)))
