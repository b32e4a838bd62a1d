"""Codes: [41]."""

from samewords.codes import code_inputs, code_outs, is_code
from samewords.errors import BadCode
from tests.helper import Case, any_things, is_right_name, large_things, not_integers

AGAIN = ("again",)
RIGHT = (("input", 0, "x"), ("set", 15, 2 ** 64 - 1), ("set", 15, 0), ("copy", 1, 0), ("add", 2, 0, 15), ("sub", 2, 15, 2),
         ("mul", 3, 2, 2), ("neg", 3, 3), ("shl", 3, 3, 64), ("shl", 3, 3, 0), ("store", 255, 3), ("store", 0, 15),
         ("load", 4, 255), ("load", 15, 0), ("input", 2, "abc"), ("loop", 5, 5), ("add", 4, 4, 5), AGAIN, ("loop", 0, 1),
         ("loop", 1, 0), ("loop", 2, 1), ("input", 3, "x"), AGAIN, AGAIN, AGAIN, ("out", 7, 15), ("out", 0, 3), ("loop", 15, 15),
         AGAIN)


class Codes(Case):
    def right(self, *code):
        self.assertIs(is_code(code), True)
        self.assertEqual(code_outs(code), sorted(one[1] for one in code if one[0] == "out"))
        self.assertEqual(code_inputs(code), sorted({one[2] for one in code if one[0] == "input"}))

    def wrong(self, at, *code):
        self.whole_is_wrong(at, code)

    def whole_is_wrong(self, at, thing):
        self.assertIs(is_code(thing), False)
        self.fails(BadCode, at, code_inputs, thing)
        self.fails(BadCode, at, code_outs, thing)

    def one_is_wrong(self, *instructions):
        for instruction in instructions:
            self.wrong(1, ("set", 0, 0), instruction, None)
            self.wrong(0, instruction)

    def test_each_instruction(self):
        self.right(*RIGHT)
        for instruction in RIGHT[:15]:
            self.right(instruction)
            for at in range(len(instruction) + 1):
                self.one_is_wrong(instruction[:at] + (0,) + instruction[at:], instruction[:at] + ("x",) + instruction[at:])
            for at in range(len(instruction)):
                self.one_is_wrong(instruction[:at] + instruction[at + 1:])
            self.one_is_wrong(list(instruction), (instruction,), (instruction[0].upper(),) + instruction[1:])

    def test_no_instructions(self):
        self.one_is_wrong(*any_things(), ("jump", 0), (None, 0, 0), (["set"], 0, 0), ("set", 0), ("again", 0), ("loop", 0),
                          ("", 0), (0, 0, 0), ("againx",), "again", ["again"])

    def test_operands(self):
        """Each operand at its greatest number, one more, one below 0, and as something else."""
        greatest = {"r": 15, "s": 255, "o": 7, "n": 2 ** 64 - 1, "k": 64}
        for instruction in (("input", "r", "x"), ("set", "r", "n"), ("copy", "r", "r"), ("add", "r", "r", "r"),
                            ("sub", "r", "r", "r"), ("mul", "r", "r", "r"), ("neg", "r", "r"), ("shl", "r", "r", "k"),
                            ("store", "s", "r"), ("load", "r", "s"), ("out", "o", "r"), ("loop", "r", "r")):
            base = tuple([instruction[0]] + [0 if kind in greatest else kind for kind in instruction[1:]])
            end = (AGAIN,) if base[0] == "loop" else ()
            self.right(base, *end)
            for at, kind in enumerate(instruction):
                if at > 0 and kind in greatest:
                    put = lambda thing: base[:at] + (thing,) + base[at + 1:]
                    self.right(put(greatest[kind]), *end)
                    self.one_is_wrong(put(greatest[kind] + 1), put(-1), put(10 ** 5000))
                    self.one_is_wrong(*[put(thing) for thing in not_integers()])

    def test_names(self):
        for name in any_things() + ["sum", "width", "out", "abcdefghi"]:
            if not is_right_name(name):
                self.one_is_wrong(("input", 0, name))
        self.right(("input", 0, "abcdefgh"))
        self.right(("input", 0, "again"), ("input", 1, "loop"), ("input", 2, "input"))

    def test_no_tuple_of_1_to_2000(self):
        for thing in any_things():
            if not isinstance(thing, tuple) or not thing:
                self.whole_is_wrong(-1, thing)
        self.whole_is_wrong(-1, list(RIGHT))
        self.right(*[("set", 0, 0)] * 2000)
        self.whole_is_wrong(-1, (("set", 0, 0),) * 2001)
        self.whole_is_wrong(-1, (None,) * 2001)
        self.whole_is_wrong(1999, (("set", 0, 0),) * 1999 + (None,))
        for thing in large_things():
            self.assertIs(is_code(thing), False)

    def test_agains(self):
        self.wrong(0, AGAIN)
        self.wrong(2, ("loop", 0, 0), AGAIN, AGAIN)
        self.wrong(1, ("set", 0, 0), AGAIN, ("loop", 0, 0))
        self.wrong(-1, ("loop", 0, 0))
        self.wrong(-1, ("loop", 0, 0), ("loop", 1, 0), AGAIN)
        self.wrong(-1, ("set", 0, 0), ("loop", 0, 0), AGAIN, ("loop", 0, 0))
        # What is wrong at an instruction goes ahead of a loop that is not closed.
        self.wrong(1, ("loop", 0, 0), None)
        self.wrong(2, ("loop", 0, 0), ("set", 1, 0), ("out", 0, 0))
        self.right(("loop", 0, 0), AGAIN, ("loop", 0, 0), AGAIN)

    def test_loops_3_and_4_deep(self):
        self.right(("loop", 0, 0), ("loop", 1, 0), ("loop", 2, 0), AGAIN, AGAIN, AGAIN)
        self.wrong(3, ("loop", 0, 0), ("loop", 1, 0), ("loop", 2, 0), ("loop", 3, 0), AGAIN, AGAIN, AGAIN, AGAIN)
        self.right(("loop", 0, 0), ("loop", 1, 0), ("loop", 2, 0), AGAIN, ("loop", 2, 0), AGAIN, AGAIN, ("loop", 1, 0), AGAIN,
                   AGAIN)
        self.wrong(5, ("loop", 0, 0), ("loop", 1, 0), ("loop", 2, 0), AGAIN, ("loop", 2, 0), ("loop", 3, 0))

    def test_counters(self):
        writing = [("input", 3, "x"), ("set", 3, 0), ("copy", 3, 0), ("add", 3, 0, 0), ("sub", 3, 0, 0), ("mul", 3, 0, 0),
                   ("neg", 3, 0), ("shl", 3, 0, 0), ("load", 3, 3)]
        for instruction in writing:
            self.wrong(1, ("loop", 3, 0), instruction, AGAIN)
            self.wrong(2, ("loop", 3, 0), ("loop", 4, 3), instruction, AGAIN, AGAIN)
            self.wrong(4, ("loop", 3, 0), ("loop", 4, 3), AGAIN, ("set", 4, 1), instruction, AGAIN)
            self.right(("loop", 4, 3), instruction, AGAIN, ("loop", 3, 0), AGAIN, instruction)
            self.right(("loop", 4, 0), ("loop", 3, 0), AGAIN, instruction, AGAIN)
            self.right(("loop", 3, 3), (instruction[0], 2) + instruction[2:], AGAIN)
        self.wrong(1, ("loop", 3, 0), ("loop", 3, 0), AGAIN, AGAIN)
        self.wrong(2, ("loop", 3, 0), ("loop", 4, 0), ("loop", 3, 0), AGAIN, AGAIN, AGAIN)
        # A slot, an output or a thing that is read may have the number of the counter.
        self.right(("loop", 3, 3), ("store", 3, 3), ("add", 4, 3, 3), ("loop", 5, 3), AGAIN, AGAIN, ("out", 3, 3))

    def test_outs(self):
        self.wrong(1, ("loop", 0, 0), ("out", 0, 0), AGAIN)
        self.wrong(2, ("loop", 0, 0), ("loop", 1, 0), ("out", 0, 0), AGAIN, AGAIN)
        self.wrong(3, ("loop", 0, 0), ("loop", 1, 0), AGAIN, ("out", 0, 0), AGAIN)
        self.right(("loop", 0, 0), AGAIN, ("out", 0, 0))
        self.wrong(1, ("out", 0, 0), ("out", 0, 1))
        self.wrong(3, ("out", 3, 0), ("out", 0, 0), ("set", 0, 0), ("out", 3, 0), ("out", 0, 0))
        self.right(*[("out", number, 0) for number in range(7, -1, -1)])

    def test_names_and_numbers(self):
        self.assertEqual(code_inputs(RIGHT), ["abc", "x"])
        self.assertEqual(code_outs(RIGHT), [0, 7])
        self.assertEqual(code_inputs((("set", 0, 0),)), [])
        self.assertEqual(code_outs((("set", 0, 0),)), [])
        self.fresh(lambda: code_inputs(RIGHT))
        self.fresh(lambda: code_outs(RIGHT))
