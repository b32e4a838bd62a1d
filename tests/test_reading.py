"""Reading code back: [44] and [45]."""

import itertools

from samewords.errors import BadCode, BadWidth, TooMany, Unreadable
from samewords.formulas import Name, Number, Sum
from samewords.meaning import is_small
from samewords.reading import read_back
from samewords.tables import Table, table
from tests.helper import Case, X, Y, big_power, by_lot, not_codes, not_widths
from tests.test_machine import AGAIN, behind_loop, code_by_lot, slow_outputs

N = Name("n")
I = Name("i")
J = Name("j")
SUM = Sum("i", N, I)


class TooLarge(Exception):
    """The slow reading has come to a formula that is not small."""


def small_table(formula, width):
    if not is_small(formula):
        raise TooLarge()
    return table(formula, width)


def slow_read(code, width):
    """The formulas that a code tells by [44], or the index at which it is unreadable.

    A cell holds (mark, formula), where mark is None for a plain formula, or None if it is lost.
    """
    cells = {(kind, number): (None, Number(0)) for kind, many in (("r", 16), ("s", 256)) for number in range(many)}
    told = {}
    at = slow_part(code, 0, len(code), cells, width, told)
    return told if at is None else at


def slow_part(code, at, end, cells, width, told):
    while at < end:
        word, *rest = code[at]
        if word == "out":
            if cells["r", rest[1]] is None:
                return at
            told[rest[0]] = cells["r", rest[1]][1]
        elif word == "loop":
            found = slow_loop(code, at, cells, width, told)
            if found is not None:
                return found
            at = behind_loop(code, at) - 1
        elif word == "store":
            cells["s", rest[0]] = cells["r", rest[1]]
        elif word == "load":
            cells["r", rest[0]] = cells["s", rest[1]]
        elif word == "copy":
            cells["r", rest[0]] = cells["r", rest[1]]
        else:
            cells["r", rest[0]] = slow_made(word, rest, cells)
        at += 1
    return None


def slow_made(word, rest, cells):
    if word == "input":
        return None, Name(rest[1])
    if word == "set":
        return None, Number(rest[1])
    one = cells["r", rest[1]]
    if word in ("neg", "shl"):
        if one is None or one[0] is not None:
            return None
        return None, -one[1] if word == "neg" else one[1] << rest[2]
    other = cells["r", rest[2]]
    if one is None or other is None:
        return None
    if one[0] is None and other[0] is None:
        return None, {"add": one[1] + other[1], "sub": one[1] - other[1], "mul": one[1] * other[1]}[word]
    if word == "add" and (one[0] is None or other[0] is None):
        return one[0] or other[0], one[1] + other[1]
    if word == "sub" and other[0] is None:
        return one[0], one[1] - other[1]
    return None


def slow_loop(code, at, cells, width, told):
    _, counter, place = code[at]
    content = cells["r", place]
    if content is None or content[0] is not None:
        return at
    turns = small_table(content[1], width)
    if not turns.inputs:
        below = Number(turns.word_at({}))
    elif turns == table(Name(turns.inputs[0]), width):
        below = Name(turns.inputs[0])
    else:
        return at
    behind = behind_loop(code, at)
    body = code[at + 1:behind - 1]
    written = {("s" if one[0] == "store" else "r", one[1]) for one in body if one[0] not in ("again", "out")}
    index = "l" + "abcdefghijklmnopqrstuvwxyz"[at]
    inner = {**cells, **{cell: ((at, cell), Number(0)) for cell in written}, ("r", counter): (None, Name(index))}
    found = slow_part(code, at + 1, behind - 1, inner, width, told)
    if found is not None:
        return found
    for cell in written:
        if inner[cell] is None or inner[cell][0] != (at, cell) or cells[cell] is None:
            cells[cell] = None
        else:
            cells[cell] = cells[cell][0], cells[cell][1] + Sum(index, below, inner[cell][1])
    cells["r", counter] = None
    return None


class Reading(Case):
    def reads(self, formula, *code, width=8):
        """What the code tells as its last output is the formula."""
        found = read_back(code, width)
        self.assertEqual(found[code[-1][1]], table(formula, width))

    def unreadable(self, at, *code, width=8):
        self.fails(Unreadable, at, read_back, code, width)

    def added(self, formula, *body, width=8):
        """Behind a loop of n turns with this body, what register 2 had ahead of it (x) has this in addition."""
        self.reads(X + formula, *self.looped(body), width=width)

    def lost(self, *body):
        """Behind such a loop register 2 is lost."""
        code = self.looped(body)
        self.unreadable(len(code) - 1, *code)

    def looped(self, body):
        return (("input", 0, "n"), ("input", 2, "x"), ("input", 5, "y"), ("store", 5, 5), ("loop", 1, 0)) + body + (
            AGAIN, ("out", 0, 2))

    def test_without_loops(self):
        start = (("input", 0, "x"), ("input", 1, "y"), ("set", 2, 259))
        for instruction, formula in ((("copy", 3, 0), X), (("add", 3, 0, 1), X + Y), (("sub", 3, 0, 1), X - Y), (("neg", 3, 1), -Y),
                                     (("mul", 3, 0, 1), X * Y), (("shl", 3, 0, 5), X << 5), (("load", 3, 9), Number(0)),
                                     (("add", 3, 2, 0), Number(3) + X), (("mul", 3, 0, 0), X * X), (("shl", 3, 0, 64), Number(0)),
                                     (("set", 3, 2 ** 64 - 1), Number(255)), (("input", 3, "z"), Name("z"))):
            self.reads(formula, *start, instruction, ("out", 4, 3))
        self.reads(X, *start, ("store", 255, 0), ("set", 0, 1), ("load", 4, 255), ("out", 7, 4))
        found = read_back(start + (("out", 3, 0), ("set", 0, 0), ("out", 1, 0), ("out", 7, 15)), 8)
        self.assertEqual(found, {3: table(X, 8), 1: Table(8, (), {}), 7: Table(8, (), {})})
        self.assertEqual(read_back(start, 8), {})

    def test_widths(self):
        code = (("input", 0, "x"), ("neg", 1, 0), ("mul", 2, 1, 0), ("input", 3, "n"), ("loop", 4, 3), ("add", 5, 5, 4), AGAIN,
                ("out", 0, 2), ("out", 1, 5))
        for width in (1, 2, 63, 64):
            self.assertEqual(read_back(code, width), {0: table(-X * X, width), 1: table(SUM, width)})

    def test_a_loop(self):
        self.added(SUM, ("add", 2, 2, 1))
        self.added(SUM, ("add", 2, 1, 2))
        self.added(-SUM, ("sub", 2, 2, 1))
        self.added(N, ("set", 3, 1), ("add", 2, 3, 2))
        self.added(N * Y + SUM * Y, ("mul", 3, 1, 5), ("add", 2, 2, 3), ("add", 2, 2, 5))
        self.added(SUM - N * Y, ("copy", 3, 2), ("sub", 3, 3, 5), ("store", 7, 3), ("load", 4, 7), ("add", 4, 1, 4), ("copy", 2, 4))
        self.added(Number(0), ("copy", 2, 2))
        self.added(Number(0), ("store", 9, 2), ("set", 2, 3), ("load", 2, 9))
        self.added(Number(0), ("set", 3, 1))

    def test_lost_in_a_loop(self):
        for body in ((("sub", 2, 1, 2),), (("sub", 2, 2, 2),), (("add", 2, 2, 2),), (("mul", 2, 2, 5),), (("neg", 2, 2),),
                     (("shl", 2, 2, 0),), (("shl", 2, 2, 1),), (("set", 2, 0),), (("input", 2, "x"),), (("copy", 2, 5),),
                     (("load", 2, 5),), (("load", 2, 9),), (("copy", 3, 5), ("copy", 2, 3)), (("set", 3, 1), ("mul", 2, 2, 3)),
                     (("copy", 3, 2), ("set", 3, 0), ("copy", 2, 3)), (("neg", 2, 2), ("neg", 2, 2)),
                     (("set", 6, 0), ("mul", 6, 6, 2), ("add", 2, 2, 6)), (("copy", 6, 2), ("sub", 6, 2, 6), ("add", 2, 2, 6)),
                     (("copy", 3, 2), ("add", 2, 3, 2)), (("neg", 3, 2), ("store", 4, 3), ("load", 2, 4))):
            self.lost(*body)

    def test_the_mark_of_something_else(self):
        # What has the mark of another register or slot is lost, also if both change places.
        self.lost(("add", 3, 3, 1), ("copy", 2, 3))
        self.lost(("copy", 4, 2), ("copy", 2, 3), ("copy", 3, 4))
        self.lost(("load", 2, 9), ("store", 9, 2))
        self.added(SUM, ("store", 9, 3), ("add", 2, 2, 1))

    def test_lost_and_set_again(self):
        code = (("input", 0, "n"), ("loop", 1, 0), ("set", 2, 7), ("neg", 3, 3), AGAIN)
        for place in (1, 2, 3):
            self.unreadable(5, *code, ("out", 0, place))
            self.unreadable(6, *code, ("copy", 4, place), ("out", 0, 4))
            self.unreadable(7, *code, ("store", 4, place), ("load", 5, 4), ("out", 0, 5))
            for one in (("neg", 4, place), ("add", 4, place, 0), ("add", 4, 0, place), ("mul", 4, 0, place), ("shl", 4, place, 0),
                        ("sub", 4, place, place)):
                self.unreadable(6, *code, one, ("out", 0, 4))
            for one, formula in ((("set", place, 5), Number(5)), (("input", place, "x"), X), (("copy", place, 0), N),
                                 (("load", place, 9), Number(0))):
                self.reads(formula, *code, one, ("out", 0, place))

    def test_lost_ahead_of_a_loop(self):
        """It stays lost, whatever is added to it."""
        code = (("input", 0, "n"), ("loop", 1, 0), ("neg", 2, 2), AGAIN, ("loop", 1, 0), ("add", 2, 2, 1), AGAIN)
        self.unreadable(7, *code, ("out", 0, 2))
        # Within a loop it stands for its mark again.
        self.reads(SUM, *code[:4], ("loop", 1, 0), ("set", 2, 1), ("mul", 3, 2, 1), ("store", 4, 3), ("add", 5, 5, 3), AGAIN,
                   ("out", 0, 5))
        self.unreadable(5, *code[:4], ("loop", 1, 0), ("loop", 3, 2), AGAIN, AGAIN)

    def test_the_counter(self):
        self.unreadable(3, ("set", 0, 3), ("loop", 1, 0), AGAIN, ("out", 0, 1))
        self.unreadable(4, ("set", 0, 0), ("set", 1, 5), ("loop", 1, 0), AGAIN, ("out", 0, 1))
        self.unreadable(3, ("set", 0, 3), ("loop", 0, 0), AGAIN, ("out", 0, 0))
        self.reads(Number(3), ("set", 0, 3), ("loop", 1, 0), AGAIN, ("out", 0, 0))
        self.unreadable(3, ("set", 0, 3), ("loop", 1, 0), AGAIN, ("loop", 2, 1), AGAIN)
        # The counter of a loop within counts as written.
        self.unreadable(6, ("set", 0, 3), ("loop", 1, 0), ("loop", 2, 0), AGAIN, ("add", 3, 3, 1), AGAIN, ("out", 0, 2))
        self.unreadable(2, ("set", 0, 3), ("loop", 1, 0), ("loop", 3, 2), AGAIN, ("loop", 2, 0), AGAIN, AGAIN)

    def test_numbers_of_turns(self):
        for number in (0, 1, 5, 255, 256, 259, 2 ** 64 - 1):
            for width in (1, 3, 8, 64):
                many = number % 2 ** width
                start = (("set", 0, number), ("input", 2, "x"), ("loop", 1, 0), ("add", 2, 2, 1))
                self.reads(X + Number(many * (many - 1) // 2 % 2 ** 64), *start, AGAIN, ("out", 0, 2), width=width)
                self.unreadable(6, *start, ("set", 3, 1), AGAIN, ("out", 0, 3), width=width)
        # The table counts, not how it came about.
        self.reads(SUM, ("input", 0, "n"), ("set", 3, 1), ("add", 0, 0, 3), ("sub", 0, 0, 3), ("loop", 1, 0), ("add", 2, 2, 1), AGAIN,
                   ("out", 0, 2))
        self.reads(Number(6), ("input", 0, "n"), ("sub", 0, 0, 0), ("set", 3, 4), ("add", 0, 0, 3), ("loop", 1, 0), ("add", 2, 2, 1),
                   AGAIN, ("out", 0, 2))
        self.reads(SUM, ("input", 0, "n"), ("mul", 0, 0, 0), ("loop", 1, 0), ("add", 2, 2, 1), AGAIN, ("out", 0, 2), width=1)

    def test_no_numbers_of_turns(self):
        start = (("input", 0, "n"), ("input", 3, "x"))
        for one in (("add", 4, 0, 3), ("shl", 4, 0, 1), ("neg", 4, 0), ("mul", 4, 0, 0), ("sub", 4, 0, 3)):
            self.unreadable(3, *start, one, ("loop", 1, 4), AGAIN)
        # Within a loop: a mark, what is lost, and twice the index.
        self.unreadable(3, *start, ("loop", 1, 0), ("loop", 2, 3), ("set", 3, 1), AGAIN, AGAIN)
        self.unreadable(4, *start, ("loop", 1, 0), ("shl", 3, 3, 0), ("loop", 2, 3), AGAIN, AGAIN)
        self.unreadable(4, *start, ("loop", 1, 0), ("add", 4, 1, 1), ("loop", 2, 4), AGAIN, AGAIN)
        self.reads(N, *start, ("loop", 1, 0), ("loop", 2, 3), AGAIN, AGAIN, ("out", 0, 0))

    def test_the_counter_is_the_number_of_turns(self):
        self.reads(SUM, ("input", 0, "n"), ("loop", 0, 0), ("add", 2, 2, 0), AGAIN, ("out", 0, 2))

    def test_an_index_as_the_number_of_turns(self):
        code = (("input", 0, "n"), ("loop", 1, 0), ("loop", 2, 1), ("add", 3, 3, 2), ("add", 4, 4, 1), AGAIN, AGAIN)
        self.reads(Sum("i", N, Sum("j", I, J)), *code, ("out", 0, 3))
        self.reads(Sum("i", N, I * I), *code, ("out", 0, 4))
        deep = (("input", 0, "n"), ("loop", 1, 0), ("loop", 2, 1), ("loop", 3, 2), ("add", 4, 4, 3), AGAIN, ("add", 5, 5, 1), AGAIN,
                AGAIN)
        self.reads(Sum("i", N, Sum("j", I, Sum("k", J, Name("k")))), *deep, ("out", 0, 4))
        self.reads(Sum("i", N, I * I), *deep, ("out", 0, 5))

    def test_inner_and_outer_add_to_the_same(self):
        code = (("input", 0, "n"), ("input", 5, "x"), ("input", 6, "y"), ("copy", 4, 6), ("loop", 1, 0), ("add", 4, 4, 5),
                ("loop", 2, 5), ("sub", 4, 4, 2), AGAIN, ("add", 4, 4, 1), AGAIN, ("out", 0, 4))
        self.reads(Y + N * X - N * Sum("i", X, I) + SUM, *code)
        # What the inner body makes anew is lost behind it, also for the outer one.
        self.unreadable(11, *code[:7], ("set", 4, 2), *code[8:])
        # Loads and stores carry the mark of the outer loop through the inner one.
        code = (("input", 0, "n"), ("loop", 1, 0), ("load", 3, 8), ("loop", 2, 0), ("add", 3, 3, 2), AGAIN, ("store", 8, 3), AGAIN,
                ("load", 4, 8), ("out", 0, 4))
        self.reads(N * SUM, *code)

    def test_an_outer_mark_in_an_inner_body(self):
        # A register with the mark of another one is lost behind the inner loop that writes it.
        code = (("input", 0, "n"), ("loop", 1, 0), ("loop", 2, 0), ("copy", 3, 4), AGAIN, ("add", 4, 4, 1), AGAIN)
        self.reads(SUM, *code, ("out", 0, 4))
        self.unreadable(7, *code, ("out", 0, 3))
        code = (("input", 0, "n"), ("loop", 1, 0), ("copy", 3, 4), ("loop", 2, 0), ("add", 3, 3, 2), AGAIN, ("copy", 4, 3), AGAIN)
        self.reads(N * SUM, *code, ("out", 0, 4))
        self.unreadable(8, *code, ("out", 0, 3))

    def test_the_first_that_is_unreadable(self):
        lost = (("set", 0, 2), ("loop", 1, 0), AGAIN)
        self.unreadable(4, *lost, ("out", 0, 0), ("out", 1, 1), ("loop", 2, 1), AGAIN, ("out", 3, 1))
        self.unreadable(4, *lost, ("neg", 5, 1), ("loop", 2, 1), AGAIN, ("out", 3, 1))
        self.unreadable(4, *lost, ("loop", 3, 0), ("loop", 4, 1), AGAIN, AGAIN)

    def test_names_are_no_indexes(self):
        """Inputs whose names an index might have."""
        names = [letter for letter in "abcdefghijklmnopqrstuvwxyz"]
        for name in names + ["ra", "saa"]:
            code = (("input", 0, name), ("loop", 1, 0), ("loop", 2, 1), ("loop", 3, 2), ("add", 4, 4, 3), AGAIN, ("add", 4, 4, 0), AGAIN,
                    AGAIN, ("out", 0, 4))
            below = Name(name)
            self.reads(Sum("ii", below, Sum("jj", Name("ii"), Sum("kk", Name("jj"), Name("kk")) + below)), *code)
        many = tuple(("input", 9, name) for name in names + [one + other for one in names for other in names if one + other != "in"
                                                             and one + other != "if"])
        self.reads(SUM, *many, ("input", 0, "n"), ("loop", 1, 0), ("add", 4, 4, 1), AGAIN, ("out", 0, 4))

    def test_by_lot(self):
        """What is read is what is run, and what cannot be read is so by the document."""
        lot = by_lot(221)
        seen = {"read": 0, "unreadable": 0, "with loops": 0}
        for _ in range(1500):
            code = code_by_lot(lot, lot.randrange(2, 14))
            width = lot.choice([1, 2, 2, 3, 64])
            try:
                slow = slow_read(code, width)
            except TooLarge:
                continue
            if isinstance(slow, int):
                self.unreadable(slow, *code, width=width)
                seen["unreadable"] += 1
                continue
            try:
                found = read_back(code, width)
            except TooMany:
                self.assertFalse(all(is_small(formula) for formula in slow.values()))
                continue
            self.assertEqual(sorted(found), sorted(slow))
            for number, formula in slow.items():
                if is_small(formula):
                    self.assertEqual(found[number], table(formula, width))
            seen["read"] += 1
            seen["with loops"] += any(formula.kind != "number" for formula in slow.values()) and AGAIN in code
            if width < 3:
                for x, y in itertools.product(range(2 ** width), repeat=2):
                    told = slow_outputs(code, width, {"x": x, "y": y})
                    self.assertEqual({number: found[number].word_at({"x": x, "y": y}) for number in found}, told)
        self.assertTrue(all(many > 100 for many in seen.values()), seen)

    def test_new_dict(self):
        self.fresh(lambda: read_back((("input", 0, "x"), ("out", 0, 0)), 8))


def power(place, into, many):
    """Instructions for the power of a register, in another one."""
    return (("copy", into, place),) + (("mul", into, into, place),) * (many - 1)


class TooLargeTables(Case):
    def test_numbers_above_12(self):
        for place, start in ((0, (("input", 0, "x"),)), (0, (("input", 0, "x"), ("input", 1, "y")))):
            self.assertEqual(read_back(start + power(place, 2, 12) + (("out", 0, 2),), 64), {0: table(big_power("x", 12), 64)})
            self.fails(TooMany, None, read_back, start + power(place, 2, 13), 64)
        # Where no number of the width is so great, nothing is too large.
        self.assertEqual(read_back((("input", 0, "x"),) + power(0, 2, 30) + (("out", 0, 2),), 3)[0],
                         table(X * X, 3) * table(X * X, 3))

    def test_more_than_400_rows(self):
        start = tuple(("input", place, name) for place, name in enumerate("abcd")) + (("set", 4, 1),)
        start += tuple(("add", place, place, 4) for place in range(4))
        for place, many in enumerate((3, 3, 4, 4)):
            start += power(place, 5 + place, many)
        start += (("mul", 5, 5, 6), ("mul", 7, 7, 8), ("mul", 9, 5, 7))
        found = read_back(start + (("out", 0, 9),), 64)[0]
        self.assertEqual(len(found.rows()), 400)
        self.fails(TooMany, None, read_back, start + power(0, 10, 4) + (("add", 9, 9, 10),), 64)
        self.fails(TooMany, None, read_back, start + (("mul", 9, 9, 0),), 64)
        self.assertEqual(len(read_back(start + power(0, 10, 3) + (("add", 9, 9, 10), ("out", 0, 9)), 64)[0].rows()), 400)

    def test_more_than_4_inputs(self):
        start = tuple(("input", place, name) for place, name in enumerate("abcde"))
        four = (("add", 5, 0, 1), ("add", 5, 5, 2), ("add", 5, 5, 3))
        self.assertEqual(read_back(start + four + (("out", 0, 5),), 8)[0].inputs, ("a", "b", "c", "d"))
        self.fails(TooMany, None, read_back, start + four + (("add", 5, 5, 4),), 8)
        self.fails(TooMany, None, read_back, start + four + (("mul", 5, 5, 4),), 8)
        # An index is an input, too: in what an instruction gives, in the sum, and in what it makes with what stood ahead.
        self.fails(TooMany, None, read_back, start + four + (("loop", 9, 0), ("add", 6, 5, 9), AGAIN), 8)
        self.fails(TooMany, None, read_back, start + four + (("loop", 9, 4), ("add", 6, 6, 5), AGAIN), 8)
        self.fails(TooMany, None, read_back, start + four + (("loop", 9, 4), ("add", 5, 5, 9), AGAIN), 8)
        self.assertEqual(read_back(start + four + (("loop", 9, 0), ("add", 5, 5, 9), AGAIN, ("out", 0, 5)), 8)[0].inputs,
                         ("a", "b", "c", "d"))

    def test_sums(self):
        """Below a name C(i, 12) has the sum C(n, 13), below a number it has one number."""
        body = power(1, 3, 12) + (("add", 4, 4, 3), AGAIN)
        self.fails(TooMany, None, read_back, (("input", 0, "n"), ("loop", 1, 0)) + body, 64)
        code = (("set", 0, 20), ("loop", 1, 0)) + body + (("out", 0, 4),)
        self.assertEqual(read_back(code, 64)[0].word_at({}), sum(i ** 12 for i in range(20)) % 2 ** 64)
        less = power(1, 3, 11) + (("add", 4, 4, 3), AGAIN, ("out", 0, 4))
        self.assertEqual(read_back((("input", 0, "n"), ("loop", 1, 0)) + less, 64)[0].degree("n"), 12)
        # The sum of an inner loop is asked where that loop ends.
        self.fails(TooMany, None, read_back, (("input", 0, "n"), ("loop", 1, 0), ("loop", 2, 0)) + body[:-1] + (AGAIN, AGAIN), 64)

    def test_what_is_lost_is_not_made(self):
        """No table and no sum is made for what is lost, or was lost ahead of the loop."""
        lost = (("input", 0, "n"), ("loop", 1, 0), ("neg", 4, 4), AGAIN)
        body = power(1, 3, 12) + (("add", 4, 4, 3), AGAIN)
        self.assertEqual(read_back(lost + (("loop", 1, 0),) + body, 64), {})
        self.fails(Unreadable, len(lost + body) + 1, read_back, lost + (("loop", 1, 0),) + body + (("out", 0, 4),), 64)
        self.fails(TooMany, None, read_back, (("input", 0, "n"), ("loop", 1, 0)) + body, 64)
        # A power of a mark, or of what is lost, is lost and not too large.
        self.assertEqual(read_back(lost + power(4, 5, 20), 64), {})
        self.assertEqual(read_back((("input", 0, "n"), ("loop", 1, 0), ("add", 4, 4, 0)) + power(4, 5, 20) + (AGAIN,), 64), {})

    def test_a_mark_plus_too_much(self):
        start = tuple(("input", place, name) for place, name in enumerate("abcd")) + (("add", 5, 0, 1), ("add", 6, 2, 3))
        self.fails(TooMany, None, read_back, start + (("loop", 9, 0), ("add", 7, 7, 9), ("add", 7, 7, 5), ("add", 7, 7, 6), AGAIN), 8)

    def test_which_comes_first(self):
        """TooMany and Unreadable come in the course of reading, also in a loop that does no turn."""
        large = (("input", 0, "x"),) + power(0, 2, 13)
        lost = (("set", 3, 0), ("loop", 4, 3), ("neg", 5, 5), AGAIN, ("out", 0, 5))
        self.fails(TooMany, None, read_back, large + lost, 64)
        self.fails(Unreadable, 4, read_back, lost + large, 64)
        self.fails(TooMany, None, read_back, (("set", 3, 0), ("loop", 4, 3)) + large + (AGAIN,), 64)
        self.fails(Unreadable, 2, read_back, (("set", 3, 0), ("loop", 4, 3), ("loop", 6, 5), ("neg", 5, 5), AGAIN) + large + (AGAIN,),
                   64)


class Wrong(Case):
    def test_wrong(self):
        for thing in not_codes():
            self.fails(BadCode, -1, read_back, thing, None)
        self.fails(BadCode, 1, read_back, (("set", 0, 0), AGAIN), None)
        unreadable = (("set", 0, 0), ("loop", 1, 0), AGAIN, ("out", 0, 1))
        for width in not_widths():
            self.fails(BadWidth, width, read_back, unreadable, width)
        self.fails(Unreadable, 3, read_back, unreadable, 8)
