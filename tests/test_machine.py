"""Running code: [42]."""

import itertools

from samewords.codes import is_code
from samewords.errors import BadCode, BadPlace, BadValue, BadWidth, Finished, NothingDone, TooLong
from samewords.machine import Machine, go_code
from tests.helper import Case, by_lot, not_codes, not_integers, not_widths

AGAIN = ("again",)
# Sums up 0 + 1 + .. + (n - 1) in register 2, one loop.
SUMMING = (("input", 0, "n"), ("loop", 1, 0), ("add", 2, 2, 1), AGAIN, ("out", 0, 2))


def behind_loop(code, at):
    """The index behind the again of the loop at an index."""
    deep = 0
    while True:
        deep += {"loop": 1, "again": -1}.get(code[at][0], 0)
        at += 1
        if deep == 0:
            return at


def slow_run_code(code, width, values, state, at=0, end=None):
    """Run a code by the document, loops as loops; state is (registers, slots, outputs), which it changes."""
    registers, slots, outputs = state
    while at < (len(code) if end is None else end):
        word, *rest = code[at]
        at += 1
        if word == "store":
            slots[rest[0]] = registers[rest[1]]
        elif word == "out":
            outputs[rest[0]] = registers[rest[1]]
        elif word == "loop":
            behind = behind_loop(code, at - 1)
            for turn in range(registers[rest[1]]):
                registers[rest[0]] = turn
                slow_run_code(code, width, values, state, at, behind - 1)
            at = behind
        else:
            made = {"input": lambda: values[rest[1]], "set": lambda: rest[1], "copy": lambda: registers[rest[1]],
                    "load": lambda: slots[rest[1]], "add": lambda: registers[rest[1]] + registers[rest[2]],
                    "sub": lambda: registers[rest[1]] - registers[rest[2]], "neg": lambda: -registers[rest[1]],
                    "mul": lambda: registers[rest[1]] * registers[rest[2]], "shl": lambda: registers[rest[1]] * 2 ** rest[2]}
            registers[rest[0]] = made[word]() % 2 ** width
    return state


def slow_outputs(code, width, values):
    return slow_run_code(code, width, values, ([0] * 16, [0] * 256, {}))[2]


def code_by_lot(lot, many, names="xy", registers=5, slots=3):
    """A code of about so many instructions, with loops, few registers and few slots."""
    code = []
    counters = []
    outs = lot.sample(range(8), 4)
    free = lambda: lot.choice([one for one in range(registers) if one not in counters])
    some = lambda: lot.randrange(registers)
    while len(code) < many:
        word = lot.choice("input set copy add add add sub mul neg shl store load out loop loop again again".split())
        if word == "loop" and len(counters) < 3:
            place = some()
            if place not in counters and lot.randrange(4):
                code.append(lot.choice([("input", place, lot.choice(names)), ("set", place, lot.choice([0, 1, 3, 2 ** 62]))]))
            code.append(("loop", free(), place))
            counters.append(code[-1][1])
        elif word == "again" and counters:
            code.append(AGAIN)
            counters.pop()
        elif word == "out" and not counters and len(outs) > 1:
            code.append(("out", outs.pop(), some()))
        elif word in ("add", "sub", "mul"):
            code.append((word, free(), some(), some()))
        elif word in ("copy", "neg"):
            code.append((word, free(), some()))
        elif word in ("input", "set", "shl", "load", "store"):
            code.append({"input": ("input", free(), lot.choice(names)), "set": ("set", free(), lot.choice([0, 1, 2, 2 ** 64 - 1])),
                         "shl": ("shl", free(), some(), lot.choice([0, 1, 64])), "load": ("load", free(), lot.randrange(slots)),
                         "store": ("store", lot.randrange(slots), some())}[word])
    code.extend([AGAIN] * len(counters))
    return tuple(code + [("out", outs.pop(), some())])


def standing(machine):
    """All that is seen of a machine."""
    return (machine.code, machine.width, machine.at, machine.steps, machine.registers, machine.slots, machine.outputs)


def moved(machine, many):
    for _ in range(many):
        machine.step()
    return machine


class Instructions(Case):
    def after(self, *code, width=8, **values):
        """The machine behind all of a code."""
        machine = Machine(code, width, values)
        machine.go()
        return machine

    def test_begin(self):
        machine = Machine(SUMMING, 8, {"n": 3})
        self.assertEqual(standing(machine), (SUMMING, 8, 0, 0, [0] * 16, [0] * 256, {}))

    def test_each(self):
        base = (("set", 1, 200), ("set", 2, 100), ("set", 3, 2 ** 64 - 1), ("store", 255, 1))
        for instruction, word in ((("input", 4, "x"), 77), (("set", 4, 258), 2), (("copy", 4, 1), 200), (("add", 4, 1, 2), 44),
                                  (("sub", 4, 2, 1), 156), (("sub", 4, 1, 2), 100), (("mul", 4, 1, 2), 32), (("neg", 4, 1), 56),
                                  (("neg", 4, 0), 0), (("shl", 4, 1, 1), 144), (("shl", 4, 1, 0), 200), (("shl", 4, 3, 7), 128),
                                  (("shl", 4, 3, 64), 0), (("load", 4, 255), 200), (("load", 4, 254), 0)):
            machine = self.after(*base, instruction, x=77)
            self.assertEqual(machine.registers, [0, 200, 100, 255, word] + [0] * 11)
            self.assertEqual(machine.slots, [0] * 255 + [200])
            self.assertEqual((machine.outputs, machine.at, machine.steps), ({}, 5, 5))
        machine = self.after(*base, ("store", 0, 2), ("out", 7, 2), ("out", 0, 5))
        self.assertEqual(machine.slots, [100] + [0] * 254 + [200])
        self.assertEqual(machine.outputs, {7: 100, 0: 0})

    def test_the_right_side_ahead_of_r(self):
        for instruction, word in ((("add", 1, 1, 1), 20), (("sub", 1, 1, 1), 0), (("mul", 1, 1, 1), 100), (("neg", 1, 1), 246),
                                  (("shl", 1, 1, 3), 80), (("copy", 1, 1), 10), (("sub", 1, 2, 1), 249), (("add", 1, 2, 1), 13)):
            self.assertEqual(self.after(("set", 1, 10), ("set", 2, 3), instruction).registers[1], word)

    def test_widths(self):
        for width in (1, 2, 63, 64):
            machine = self.after(("set", 0, 2 ** 64 - 1), ("add", 1, 0, 0), ("mul", 2, 0, 0), ("neg", 3, 0), ("shl", 4, 0, width - 1),
                                 ("input", 5, "x"), width=width, x=2 ** width - 1)
            self.assertEqual(machine.registers[:6], [2 ** width - 1, 2 ** width - 2, 1, 1, 2 ** (width - 1), 2 ** width - 1])

    def test_by_lot(self):
        lot = by_lot(211)
        for _ in range(300):
            code = code_by_lot(lot, lot.randrange(2, 14))
            self.assertTrue(is_code(code))
            width = lot.choice([1, 2, 2, 3])
            for x, y in itertools.product(range(2 ** width), repeat=2):
                state = slow_run_code(code, width, {"x": x, "y": y}, ([0] * 16, [0] * 256, {}))
                machine = Machine(code, width, {"x": x, "y": y, "z": None})
                try:
                    self.assertEqual(machine.go(), state[2])
                except TooLong:
                    continue
                self.assertEqual((machine.registers, machine.slots, machine.outputs), state)
                self.assertEqual(go_code(code, width, {"x": x, "y": y}), state[2])

    def test_new_things(self):
        machine = self.after(*SUMMING, n=4)
        self.fresh(lambda: machine.registers)
        self.fresh(lambda: machine.slots)
        self.fresh(lambda: machine.outputs)
        self.fresh(machine.go)
        values = {"n": 4}
        machine = Machine(SUMMING, 8, values)
        values["n"] = 5
        self.assertEqual(machine.go(), {0: 6})
        self.assertEqual(values, {"n": 5})


class Loops(Case):
    def test_turns(self):
        for turns in range(6):
            machine = Machine(SUMMING, 8, {"n": turns})
            self.assertEqual(machine.go(), {0: sum(range(turns))})
            self.assertEqual(machine.steps, 3 + 2 * turns)
            self.assertEqual(machine.registers[1], max(turns - 1, 0))

    def test_no_turn_leaves_the_counter(self):
        code = (("set", 1, 9), ("loop", 1, 0), ("set", 2, 1), AGAIN)
        machine = Machine(code, 8, {})
        machine.go()
        self.assertEqual((machine.registers, machine.steps, machine.at), ([0, 9] + [0] * 14, 2, 4))

    def test_step_by_step(self):
        machine = Machine(SUMMING, 8, {"n": 2})
        seen = []
        while machine.at < len(SUMMING):
            self.assertIsNone(machine.step())
            seen.append((machine.at, machine.registers[1], machine.registers[2]))
        self.assertEqual(seen, [(1, 0, 0), (2, 0, 0), (3, 0, 0), (2, 1, 0), (3, 1, 1), (4, 1, 1), (5, 1, 1)])

    def test_the_counter_may_be_the_number_of_turns(self):
        self.assertEqual(go_code((("input", 0, "n"), ("loop", 0, 0), ("add", 2, 2, 0), AGAIN, ("out", 0, 2), ("out", 1, 0)), 8,
                                 {"n": 5}), {0: 10, 1: 4})

    def test_what_is_in_a_later(self):
        """The body writes a, the counter of an inner loop is a, and so on."""
        code = (("input", 0, "n"), ("loop", 1, 0), ("set", 0, 200), ("add", 2, 2, 1), AGAIN, ("out", 0, 2), ("out", 1, 0))
        self.assertEqual(go_code(code, 8, {"n": 4}), {0: 6, 1: 200})
        code = (("input", 0, "n"), ("loop", 1, 0), ("loop", 0, 1), ("add", 2, 2, 0), AGAIN, AGAIN, ("out", 0, 2), ("out", 1, 0))
        self.assertEqual(go_code(code, 8, {"n": 5}), {0: 10, 1: 3})

    def test_loops_within_loops(self):
        code = (("input", 0, "n"), ("loop", 1, 0), ("loop", 2, 1), ("loop", 3, 2), ("add", 4, 4, 3), AGAIN, AGAIN, AGAIN, ("out", 0, 4),
                ("loop", 1, 0), ("set", 5, 2), ("loop", 2, 5), ("add", 6, 6, 1), AGAIN, ("loop", 2, 1), ("add", 6, 6, 5), AGAIN, AGAIN,
                ("out", 1, 6))
        for n in range(7):
            self.assertEqual(go_code(code, 8, {"n": n}), slow_outputs(code, 8, {"n": n}))
            first = sum(d for a in range(n) for b in range(a) for d in range(b))
            self.assertEqual(go_code(code, 8, {"n": n}), {0: first, 1: sum(4 * a for a in range(n))})

    def test_empty_bodies(self):
        code = (("set", 0, 3), ("loop", 1, 0), AGAIN, ("loop", 2, 0), ("loop", 3, 0), AGAIN, AGAIN, ("out", 0, 3), ("out", 1, 1))
        machine = Machine(code, 8, {})
        self.assertEqual(machine.go(), {0: 2, 1: 2})
        self.assertEqual(machine.steps, 1 + 4 + 1 + 3 * 5 + 2)


class Backwards(Case):
    def test_step_at_the_end_and_back_at_the_begin(self):
        machine = Machine(SUMMING, 8, {"n": 1})
        self.fails(NothingDone, None, machine.back)
        machine.go()
        before = standing(machine)
        self.fails(Finished, None, machine.step)
        self.assertEqual(standing(machine), before)
        self.assertIsNone(machine.back())
        self.assertEqual((machine.at, machine.steps, machine.outputs), (4, 4, {}))

    def test_back_by_lot(self):
        """Forward and back by lot, through loops, outs and stores: each place looks as it did before."""
        lot = by_lot(212)
        for _ in range(60):
            machine = Machine(code_by_lot(lot, 12), 2, {"x": lot.randrange(4), "y": lot.randrange(4)})
            seen = [standing(machine)]
            for _ in range(60):
                if lot.randrange(3) and machine.at < len(machine.code):
                    machine.step()
                    seen = seen[:machine.steps] + [standing(machine)]
                elif machine.steps:
                    machine.back()
                self.assertEqual(standing(machine), seen[machine.steps])
            while machine.steps:
                machine.back()
            self.assertEqual(standing(machine), seen[0])
            self.fails(NothingDone, None, machine.back)

    def test_outputs_go_with_their_step(self):
        machine = Machine((("set", 0, 3), ("out", 5, 0), ("store", 9, 0)), 8, {})
        machine.go()
        machine.back()
        self.assertEqual((machine.outputs, machine.slots[9]), ({5: 3}, 0))
        machine.back()
        self.assertEqual(machine.outputs, {})


class Going(Case):
    def counting(self, turns):
        """A code that does 2 * turns + 3 steps."""
        return (("set", 0, turns), ("loop", 1, 0), ("add", 2, 2, 1), AGAIN, ("out", 0, 1))

    def test_go_to(self):
        machine = Machine(SUMMING, 8, {"n": 3})
        self.assertIs(machine.go_to(0), True)
        self.assertEqual(machine.steps, 0)
        for at, steps in ((2, 2), (2, 2), (3, 3), (2, 4), (4, 8), (5, 9), (5, 9)):
            self.assertIs(machine.go_to(at), True)
            self.assertEqual((machine.at, machine.steps), (at, steps))
        self.assertIs(machine.go_to(0), False)
        self.assertEqual((machine.at, machine.steps, machine.outputs), (5, 9, {0: 3}))

    def test_an_index_that_is_not_met(self):
        machine = Machine(SUMMING, 8, {"n": 0})
        self.assertIs(machine.go_to(2), False)
        self.assertEqual((machine.at, machine.steps, machine.outputs), (5, 3, {0: 0}))
        machine = Machine(SUMMING, 8, {"n": 2})
        machine.go_to(4)
        self.assertIs(machine.go_to(3), False)
        self.assertEqual((machine.at, machine.outputs), (5, {0: 1}))

    def test_20000_steps(self):
        # With a set ahead of it the code takes 20,000 steps, with two 20,001.
        code = (("set", 3, 1),) + self.counting(9998)
        machine = Machine(code, 64, {})
        self.assertEqual(machine.go(), {0: 9997})
        self.assertEqual(machine.steps, 20000)
        self.assertEqual(machine.go(), {0: 9997})
        longer = (("set", 3, 1),) + code
        machine = Machine(longer, 64, {})
        self.fails(TooLong, None, machine.go)
        self.fails(TooLong, None, go_code, longer, 64, {})
        self.assertEqual(standing(machine), standing(Machine(longer, 64, {})))
        self.fails(NothingDone, None, machine.back)
        self.assertIs(machine.go_to(6), True)
        self.assertEqual((machine.at, machine.steps), (6, 20000))
        # At the index already, or by single steps, there is no bound.
        self.assertIs(machine.go_to(6), True)
        self.fails(TooLong, None, machine.go)
        self.fails(TooLong, None, machine.go_to, 0)
        self.assertEqual((machine.at, machine.steps, machine.outputs), (6, 20000, {}))
        machine.step()
        self.assertEqual((machine.go(), machine.steps), ({0: 9997}, 20001))
        self.assertIs(machine.go_to(7), True)
        self.assertIs(machine.go_to(0), False)
        for _ in range(20001):
            machine.back()
        self.assertEqual(standing(machine), standing(Machine(longer, 64, {})))

    def test_too_long_in_the_middle(self):
        code = self.counting(2 ** 64 - 1)
        machine = moved(Machine(code, 64, {}), 6)
        before = standing(machine)
        for deed in (lambda: machine.go(), lambda: machine.go_to(4), lambda: machine.go_to(0), lambda: machine.go_to(5)):
            self.fails(TooLong, None, deed)
            self.assertEqual(standing(machine), before)
        self.assertIs(machine.go_to(3), True)
        for _ in range(7):
            machine.back()
        self.assertEqual(standing(machine), standing(Machine(code, 64, {})))

    def test_more_steps_than_that(self):
        machine = moved(Machine(self.counting(2 ** 64 - 1), 64, {}), 20005)
        self.assertEqual(machine.steps, 20005)
        self.assertIs(machine.go_to(machine.at), True)
        self.fails(TooLong, None, machine.go)
        self.assertEqual(machine.steps, 20005)


class Placing(Case):
    CODE = (("input", 0, "x"), ("store", 3, 0), ("loop", 1, 0), ("add", 2, 2, 1), AGAIN, ("out", 0, 2), ("out", 1, 0))

    def test_placed(self):
        machine = Machine(self.CODE, 8, {"x": 4, "y": 9})
        machine.go_to(6)
        before = standing(machine)
        other = (("set", 9, 1), ("add", 0, 0, 2), ("out", 5, 0), ("out", 0, 0))
        placed = machine.placed(other, 1)
        self.assertEqual(standing(placed), (other, 8, 1, machine.steps, machine.registers, machine.slots, {0: 6}))
        self.assertEqual(placed.registers[:3], [4, 3, 6])
        self.fails(NothingDone, None, placed.back)
        self.assertEqual(placed.go(), {0: 10, 5: 10})
        placed.back()
        self.assertEqual(placed.outputs, {0: 6, 5: 10})
        self.assertEqual(placed.steps, machine.steps + 2)
        self.assertEqual(standing(machine), before)
        self.assertEqual(machine.go(), {0: 6, 1: 4})
        self.assertEqual(placed.outputs, {0: 6, 5: 10})

    def test_places(self):
        """Anywhere but behind a loop and up to its again."""
        code = (("set", 0, 1), ("loop", 1, 0), ("loop", 2, 0), AGAIN, ("set", 3, 0), AGAIN, ("loop", 1, 0), AGAIN)
        machine = Machine(self.CODE, 8, {"x": 4})
        for at in (0, 1, 6, 8):
            self.assertEqual(machine.placed(code, at).at, at)
        for at in [2, 3, 4, 5, 7, -1, 9, 10 ** 5000] + not_integers():
            self.fails(BadPlace, at, machine.placed, code, at)
        self.fails(Finished, None, machine.placed(code, 8).step)

    def test_from_within_a_loop(self):
        machine = Machine(self.CODE, 8, {"x": 4})
        machine.go_to(3)
        placed = machine.placed(self.CODE, 2)
        self.assertEqual(placed.go(), {0: 6, 1: 4})
        self.assertEqual(machine.at, 3)
        self.assertEqual(machine.go(), {0: 6, 1: 4})

    def test_words_of_inputs(self):
        """The words are those of the first code, also behind placed, and also those that it was not given."""
        machine = Machine(self.CODE, 8, {"x": 4, "y": 9})
        other = (("input", 4, "b"), ("input", 4, "a"), ("input", 5, "y"), ("input", 6, "x"), ("out", 7, 6))
        for at, name in ((0, "a"), (1, "a"), (2, "y")):
            self.fails(BadValue, name, machine.placed, other, at)
        placed = machine.placed(other, 3)
        self.assertEqual(placed.go(), {7: 4})
        self.assertEqual(machine.placed(other, 5).go(), {})
        for name, place in (("y", 2), ("a", 0)):
            self.fails(BadValue, name, placed.placed, other, place)
        # A code without the name in between does not make the word be forgotten.
        again = placed.placed((("set", 0, 0),), 0).placed(other, 3).placed(self.CODE, 0)
        self.assertEqual(again.go(), {0: 6, 1: 4, 7: 4})

    def test_loops_of_the_other_code(self):
        """Loops are left out, and done, by the code that it goes on with."""
        other = (("loop", 1, 9), ("add", 2, 2, 0), ("add", 2, 2, 0), ("add", 2, 2, 0), AGAIN, ("loop", 1, 0), ("add", 2, 2, 1), AGAIN,
                 ("loop", 3, 9), AGAIN, ("out", 5, 2))
        machine = Machine(self.CODE, 8, {"x": 4})
        machine.step()
        self.assertEqual(machine.placed(other, 0).go(), {5: 6})
        self.assertEqual(machine.go(), {0: 6, 1: 4})

    def test_placed_again_and_again(self):
        machine = Machine(self.CODE, 8, {"x": 4})
        machine.go_to(2)
        for _ in range(50):
            machine = machine.placed(self.CODE, 2)
        self.assertEqual((machine.at, machine.steps, machine.registers[0], machine.slots[3]), (2, 2, 4, 4))
        self.assertEqual(machine.go(), {0: 6, 1: 4})

    def test_told_twice(self):
        """An output that was told ahead is told once more by the other code, and taken back to what it was."""
        machine = Machine(self.CODE, 8, {"x": 4})
        machine.go()
        placed = machine.placed((("set", 0, 77), ("out", 0, 0)), 0)
        self.assertEqual(placed.go(), {0: 77, 1: 4})
        placed.back()
        self.assertEqual(placed.outputs, {0: 6, 1: 4})

    def test_steps_go_on(self):
        code = (("set", 0, 9990), ("loop", 1, 0), AGAIN)
        machine = Machine(code, 64, {})
        machine.go()
        self.assertEqual(machine.steps, 9992)
        placed = machine.placed(code, 0)
        self.assertEqual((placed.go(), placed.steps), ({}, 19984))
        far = placed.placed(code, 0)
        self.fails(TooLong, None, far.go)
        self.assertEqual((far.at, far.steps), (0, 19984))
        self.fails(NothingDone, None, far.back)

    def test_wrong(self):
        machine = Machine(self.CODE, 8, {"x": 4})
        for thing in not_codes():
            self.fails(BadCode, -1, machine.placed, thing, None)
        self.fails(BadCode, 1, machine.placed, (("input", 0, "a"), None), None)
        self.fails(BadPlace, None, machine.placed, (("input", 0, "a"),), None)
        self.fails(BadValue, "a", machine.placed, (("input", 0, "a"),), 0)


class Wrong(Case):
    def test_codes_widths_values(self):
        for thing in not_codes():
            self.fails(BadCode, -1, Machine, thing, None, None)
            self.fails(BadCode, -1, go_code, thing, None, None)
        self.fails(BadCode, 2, Machine, (("set", 0, 0), ("neg", 0, 0), AGAIN), None, None)
        for width in not_widths():
            self.fails(BadWidth, width, Machine, SUMMING, width, None)
            self.fails(BadWidth, width, go_code, SUMMING, width, None)
        code = (("input", 0, "y"), ("input", 0, "x"))
        for values in (None, True, 3, "xy", [1, 2], ("x", "y"), {}, {"y": 1}, {"x": True, "y": 1}, {"x": None}, {"x": -1},
                       {"x": 8}, {"x": "1"}, {"x": 10 ** 5000}):
            self.fails(BadValue, "x", Machine, code, 3, values)
            self.fails(BadValue, "x", go_code, code, 3, values)
        for word in (None, False, -1, 8, [1]):
            self.fails(BadValue, "y", Machine, code, 3, {"x": 7, "y": word})
        self.assertEqual(Machine((("set", 0, 0),), 3, None).go(), {})

    def test_places(self):
        machine = Machine(SUMMING, 8, {"n": 3})
        for at in not_integers() + [-1, 6, 10 ** 5000]:
            self.fails(BadPlace, at, machine.go_to, at)
        self.assertEqual(machine.steps, 0)
