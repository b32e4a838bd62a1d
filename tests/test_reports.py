"""Reports: [51] and [52]."""

from samewords.coding import code_of
from samewords.errors import (BadCode, BadCount, BadOuts, BadPasses, BadProgram, BadSteps, NotPlain, TooMany, Unreadable)
from samewords.formulas import Call, Name, Number, Sum
from samewords.passes import PASSES, passed, program_paper
from samewords.programs import Choice, Program
from samewords.reports import Report, compiled
from samewords.right import right_paper
from tests.helper import (X, Case, any_things, big_power, by_lot, inputs_of, large_things, not_codes, not_integers, not_programs,
                          not_rows, plain_by_lot, slow_run)
from tests.test_machine import AGAIN, slow_outputs
from tests.test_plain import too_large

N = Name("n")
I = Name("i")
A = Name("a")
SUMMED = Sum("i", N, I * X)


def program(value, width=8, inputs=("x", "n"), outs=("a", "n"), more=()):
    return Program(width, inputs, (), [("a", value)] + list(more), outs)


FIRST = program(SUMMED)
SECOND = program(Sum("i", N, I) * X)
THIRD = Program(8, ("x", "n"), (), [("b", Sum("i", N, I)), ("a", Name("b") * X)], ("a", "n"))
# Unlike the first one at x = 1, n = 2 and so on.
WRONG = program(SUMMED + SUMMED)
CODE = (("input", 0, "n"), ("input", 1, "x"), ("loop", 2, 0), ("mul", 3, 2, 1), ("add", 4, 4, 3), AGAIN, ("out", 0, 4), ("out", 1, 0))
ENDS = (2, 1)
WORDS = {(n, x): (n * (n - 1) // 2 * x, n) for n in range(3) for x in range(2)}
PAPER = (ENDS, WORDS)


class Reports(Case):
    def report(self, steps, code, fault, first=FIRST):
        report = Report(first, steps, code)
        self.assertEqual(report.fault(), fault)
        self.assertIs(report.holds(), fault is None)
        if fault is not None:
            self.assertIsNone(report.papers())
            self.assertIs(report.is_papers([PAPER] * (len(steps) + 1)), False)
        return report

    def test_what_it_has(self):
        steps = [SECOND, THIRD]
        report = Report(FIRST, steps, CODE)
        steps.append(WRONG)
        self.assertEqual((report.program, report.steps, report.code), (FIRST, (SECOND, THIRD), CODE))
        self.assertIsInstance(report.steps, tuple)
        self.assertEqual(Report(FIRST, (), CODE).steps, ())

    def test_right(self):
        for steps in ((), (SECOND,), [SECOND, THIRD], (FIRST, FIRST), [THIRD] * 8):
            report = self.report(steps, CODE, None)
            self.assertEqual(report.papers(), [PAPER] * (len(steps) + 1))
            self.assertIs(report.is_papers(report.papers()), True)

    def test_the_first_step_that_is_not_alike(self):
        unlike = {"n": 2, "x": 1}
        self.report([WRONG], CODE, (0, unlike))
        self.report([SECOND, WRONG, THIRD], CODE, (1, unlike))
        # Behind a wrong step the next one is asked against that, not against the program.
        self.report([SECOND, THIRD, WRONG, WRONG], CODE, (2, unlike))
        self.report([SECOND, THIRD, WRONG, WRONG], code_of(WRONG, 3), (2, unlike))
        self.report([WRONG, SECOND], CODE, (0, unlike))
        self.report([SECOND] * 7 + [WRONG], CODE, (7, unlike))

    def test_a_wrong_code(self):
        unlike = {"n": 2, "x": 1}
        self.report([], code_of(WRONG, 3), (0, unlike))
        self.report([SECOND], code_of(WRONG, 3), (1, unlike))
        self.report([THIRD] * 8, code_of(WRONG, 3), (8, unlike))
        # The least input over all outs, not that of the first out alone.
        code = CODE[:6] + (("out", 0, 9), ("out", 1, 9))
        self.report([SECOND], code, (1, {"n": 1, "x": 0}))
        outs = Program(8, ("x", "n"), (), [("a", N * N - N)], ("a", "x"))
        changed = Program(8, ("x", "n"), (), [("a", Number(0)), ("b", N)], ("a", "x"))
        report = Report(outs, [changed], code_of(changed, 2))
        self.assertEqual(report.fault(), (0, {"n": 2, "x": 0}))
        self.report([SECOND], (("set", 0, 1), ("out", 0, 0), ("out", 1, 0)), (1, {"n": 0, "x": 0}))

    def test_new_things(self):
        report = Report(FIRST, [SECOND, WRONG], CODE)
        self.fresh(lambda: report.fault()[1])
        right = Report(FIRST, [SECOND], CODE)
        self.fresh(right.papers)
        self.fresh(lambda: right.papers()[0][1])
        self.fresh(lambda: right.papers()[1][1])

    def test_equal(self):
        report = Report(FIRST, [SECOND], CODE)
        self.assertTrue(report == Report(FIRST, (SECOND,), CODE))
        for other in (Report(SECOND, [SECOND], CODE), Report(FIRST, [], CODE), Report(FIRST, [THIRD], CODE),
                      Report(FIRST, [SECOND], CODE + (("set", 0, 0),)), *any_things(), (FIRST, (SECOND,), CODE)):
            self.assertIs(report == other, False)

    def test_papers_by_lot(self):
        """The papers are those of [50] for each step, and then that of [46]."""
        lot = by_lot(261)
        seen = 0
        for _ in range(25):
            made = plain_by_lot(lot, lot.choice([1, 2, 8]), 4)
            passes = [lot.choice(PASSES) for _ in range(lot.randrange(5))]
            try:
                report = compiled(made, 16, passes)
                papers = report.papers()
            except TooMany:
                continue
            ahead = [made] + list(report.steps)
            self.assertEqual(papers, [program_paper(ahead[at], ahead[at + 1]) for at in range(len(report.steps))]
                             + [right_paper(ahead[-1], report.code)])
            self.assertIs(report.is_papers(papers), True)
            seen += 1
        self.assertGreater(seen, 15)

    def test_judge(self):
        report = Report(FIRST, [SECOND, THIRD], CODE)
        greater = ((3, 2), {(n, x): (n * (n - 1) // 2 * x, n) for n in range(4) for x in range(3)})
        for papers in ([PAPER] * 3, [greater, PAPER, greater]):
            self.assertIs(report.is_papers(papers), True)
        less = ((1, 1), {row: WORDS[row] for row in WORDS if row[0] < 2})
        wrong = (ENDS, {**WORDS, (2, 1): (2, 2)})
        for papers in (any_things() + large_things() + [
                [PAPER] * 2, [PAPER] * 4, (PAPER,) * 3, [PAPER, PAPER, list(PAPER)], [PAPER, PAPER, None], [], [PAPER, wrong, PAPER],
                [wrong, PAPER, PAPER], [PAPER, PAPER, wrong], [PAPER, less, PAPER], [less] * 3, [[PAPER] * 3], [None] * 3]):
            self.assertIs(report.is_papers(papers), False)
        for thing in any_things() + large_things():
            self.assertIs(report.is_papers([PAPER, thing, PAPER]), False)

    def test_a_fault_has_no_papers(self):
        """Not even those of the steps and of the code each by itself."""
        doubled = (ENDS, {row: (2 * told[0], told[1]) for row, told in WORDS.items()})
        self.assertEqual(right_paper(WRONG, code_of(WRONG, 3)), doubled)
        for steps, code, papers in (([WRONG], code_of(WRONG, 3), [doubled, doubled]), ([SECOND], code_of(WRONG, 3), [PAPER, doubled]),
                                    ([WRONG, SECOND], CODE, [doubled, PAPER, PAPER])):
            self.assertIs(Report(FIRST, steps, code).is_papers(papers), False)

    def test_boxes_of_more_than_400_rows(self):
        made = lambda many: Program(64, ("x", "y", "z"), (), [("a", big_power("x", 7)), ("b", big_power("y", 4)),
                                                              ("c", big_power("z", many))], ["a", "b", "c"])
        few = Report(made(9), [made(9)], code_of(made(9), 2))
        self.assertEqual([len(paper[1]) for paper in few.papers()], [400, 400])
        for steps in ([], [made(10)]):
            report = Report(made(10), steps, code_of(made(10), 2))
            self.assertIs(report.holds(), True)
            self.fails(TooMany, None, report.papers)
            self.assertIs(report.is_papers(few.papers()), False)
        self.assertIsNone(Report(made(10), [made(9)], code_of(made(9), 2)).papers())

    def test_wrong(self):
        for thing in not_programs():
            self.fails(BadProgram, thing, Report, thing, None, None)
        self.fails(NotPlain, 0, Report, program(Choice(X, X, X, X)), None, None)
        self.fails(TooMany, None, Report, too_large(), None, None)
        self.fails(TooMany, None, Report, program(big_power("x", 13)), None, None)
        for steps in not_rows() + [[SECOND] * 9, (None,) * 9]:
            self.fails(BadSteps, -1, Report, FIRST, steps, None)
        choice = program(Choice(X, X, X, X))
        bad = [choice, program(big_power("x", 13)), program(SUMMED, 7), program(SUMMED, inputs=("n", "x")), program(SUMMED, outs=("n", "a")),
               program(SUMMED, outs=("a",)), program(SUMMED, inputs=("x", "n", "z")), program(SUMMED, outs=("a", "x"))]
        large = Program(8, ("x", "n"), [("big", ("p",), big_power("p", 100))], [("a", Call("big", [X + X]))], ("a", "n"))
        for step in not_programs() + bad + [large]:
            self.fails(BadSteps, 0, Report, FIRST, [step], None)
            self.fails(BadSteps, 1, Report, FIRST, (SECOND, step, None), None)
        # A step need not be alike to be one.
        self.assertEqual(Report(FIRST, [WRONG], CODE).steps, (WRONG,))
        for code in not_codes():
            self.fails(BadCode, -1, Report, FIRST, [WRONG], code)
        self.fails(BadCode, 1, Report, FIRST, [], (("set", 0, 0), AGAIN))
        for code in (CODE[:7], CODE + (("out", 2, 0),), CODE + (("input", 0, "z"),)):
            self.fails(BadOuts, code, Report, FIRST, [WRONG], code)
        self.fails(Unreadable, 3, Report, FIRST, [], (("set", 0, 0), ("loop", 1, 0), AGAIN, ("out", 0, 1), ("out", 1, 0)))
        wide = program(SUMMED, 64)
        many = (("input", 0, "x"),) + (("mul", 0, 0, 0),) * 4 + (("out", 0, 0), ("out", 1, 0))
        self.fails(TooMany, None, Report, wide, [], many)


class Compiled(Case):
    def test_ordinary(self):
        made = Program(8, ("x", "n"), [("f", ("p", "q"), Sum("k", Name("p"), Name("q") * Name("k")))],
                       [("b", Call("f", [N, X])), ("c", X - X), ("a", Name("b") + Name("c"))], ("a", "n"))
        passes = ["calls", "constants", "names", "equals", "unused"]
        report = compiled(made, 3, passes)
        ahead = made
        for name, step in zip(passes, report.steps):
            self.assertEqual(step, passed(ahead, name))
            ahead = step
        self.assertEqual((report.program, len(report.steps), report.code), (made, 5, code_of(ahead, 3)))
        self.assertIs(report.holds(), True)
        self.assertEqual(report.papers(), [PAPER] * 6)
        self.assertEqual(report, compiled(made, 3, tuple(passes)))
        self.assertEqual(passes, ["calls", "constants", "names", "equals", "unused"])

    def test_no_passes(self):
        report = compiled(FIRST, 3, [])
        self.assertEqual((report.steps, report.code), ((), code_of(FIRST, 3)))
        self.assertEqual(report.papers(), [PAPER])

    def test_8_passes_and_9(self):
        self.assertEqual(len(compiled(FIRST, 3, ["idle"] * 8).steps), 8)
        self.fails(BadPasses, -1, compiled, FIRST, 3, ["idle"] * 9)
        self.fails(BadPasses, -1, compiled, FIRST, 3, (None,) * 9)

    def test_the_count_is_asked_of_the_last_program(self):
        made = program(SUMMED, more=[("b", Sum("i", N, Sum("j", I, X)))])
        for many in (2, 3):
            self.fails(BadCount, many, compiled, made, many, ["calls"])
        self.assertEqual(compiled(made, 3, ["unused"]).code, code_of(FIRST, 3))
        self.fails(BadCount, 2, compiled, made, 2, ["unused"])
        deep = program(Sum("i", N, Sum("j", I, Sum("k", I, Sum("l", I, X)))), more=[("b", X)])
        self.fails(BadCount, 5, compiled, deep, 5, [])
        self.fails(TooMany, None, compiled, deep, 6, ["idle"])

    def test_by_lot(self):
        lot = by_lot(262)
        seen = 0
        for _ in range(60):
            made = plain_by_lot(lot, lot.choice([1, 2, 8]), 5)
            try:
                report = compiled(made, 16, [lot.choice(PASSES) for _ in range(lot.randrange(9))])
            except TooMany:
                continue
            self.assertIs(report.holds(), True)
            for values in inputs_of(made.inputs, made.width, 3):
                self.assertEqual(slow_outputs(report.code, made.width, values), dict(enumerate(slow_run(made, values).values())))
            seen += 1
        self.assertGreater(seen, 40)

    def test_wrong(self):
        for thing in not_programs():
            self.fails(BadProgram, thing, compiled, thing, None, None)
        self.fails(NotPlain, 0, compiled, program(Choice(X, X, X, X)), None, None)
        self.fails(TooMany, None, compiled, too_large(), None, None)
        self.fails(TooMany, None, compiled, program(big_power("x", 13)), None, None)
        for passes in not_rows():
            self.fails(BadPasses, -1, compiled, FIRST, None, passes)
        for name in any_things() + ["Idle", PASSES]:
            self.fails(BadPasses, 0, compiled, FIRST, None, [name])
            self.fails(BadPasses, 2, compiled, FIRST, None, ("idle", "calls", name, None))
        for many in not_integers() + [2, 1, 17, 10 ** 5000]:
            self.fails(BadCount, many, compiled, FIRST, many, ["idle"])
