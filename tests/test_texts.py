"""Formulas as text: [33]."""

import re

from samewords.errors import BadBound, BadFormula, BadName, BadText, TooMany
from samewords.formulas import Call, Name, Number, Sum
from samewords.texts import read_formula, write_formula
from tests.helper import WORDS, X, Y, Case, any_things, by_lot, not_formulas

N = Name("n")
I = Name("i")
SAMPLES = (
    ("x", X), ("0", Number(0)), ("255", Number(255)), ("9" * 30, Number(10 ** 30 - 1)), ("abcdefgh", Name("abcdefgh")),
    ("(x + y)", X + Y), ("(x - 3)", X - Number(3)), ("(x * (- y))", X * -Y), ("(x << 0)", X << 0),
    ("((x << 9) << 64)", (X << 9) << 64), ("sum(i, n, i)", Sum("i", N, I)),
    ("sum(i, 10, (i * x))", Sum("i", Number(10), I * X)), ("f(x)", Call("f", [X])),
    ("widths(x, 1, (y + 2), f(x))", Call("widths", [X, Number(1), Y + Number(2), Call("f", [X])])),
    ("sum(summed, sums, sum(j, summed, (lets - inn)))",
     Sum("summed", Name("sums"), Sum("j", Name("summed"), Name("lets") - Name("inn")))),
    ("(- (- 0))", -(-Number(0))), ("((1 + 2) + (3 + 4))", (Number(1) + Number(2)) + (Number(3) + Number(4))))


class Slow:
    """Reads a text letter by letter, with all places at which the reading may stand.

    A place is a tuple of what is still to come: signs, and names of what may be read there.
    """

    def __init__(self):
        self.found = {}

    def opened(self, place):
        """All places in which the first thing is a sign, or no thing is left."""
        if place not in self.found:
            self.found[place] = self.open_all(place)
        return self.found[place]

    def open_all(self, place):
        found = []
        waiting = [place]
        while waiting:
            first = waiting.pop()
            if not first or len(first[0]) == 1:
                found.append(first)
                continue
            waiting.extend(tuple(row) + first[1:] for row in self.rows(first[0]))
        return found

    def rows(self, word):
        if word == "formula":
            operations = [list("(") + ["formula"] + list(signs) + [what] + [")"] for signs, what in (
                (" + ", "formula"), (" - ", "formula"), (" * ", "formula"), (" << ", "shift"))]
            things = [["name:"] + ["("] + ["formula"] + [", formula"] * many + [")"] for many in range(4)]
            summed = list("sum(") + ["name:", *", ", "bound", *", ", "formula", ")"]
            return operations + things + [list("(- ") + ["formula", ")"], summed, ["name:"], ["number"]]
        if word == ", formula":
            return [[*", ", "formula"]]
        if word == "bound":
            return [["name:"], ["number"]]
        if word == "number":
            return [["0"]] + [[digit, "digits:29"] for digit in "123456789"]
        if word.startswith("digits:"):
            left = int(word[7:])
            return [[]] + ([[digit, f"digits:{left - 1}"] for digit in "0123456789"] if left else [])
        if word == "shift":
            return [list(str(number)) for number in range(65)]
        assert word.startswith("name:")
        letters = word[5:]
        more = [[letter, "name:" + letters + letter] for letter in "abcdefghijklmnopqrstuvwxyz"] \
            if len(letters) < 8 else []
        return more + ([[]] if letters and letters not in WORDS else [])

    def fault(self, text):
        """The index at which the text stops being a beginning, or None if it is a whole one."""
        places = self.opened(("formula",))
        for at, sign in enumerate(text):
            after = {place[1:] for place in places if place and place[0] == sign}
            if not after:
                return at
            places = {one for place in after for one in self.opened(place)}
        return None if () in places else len(text)


SLOW = Slow()


class Writing(Case):
    def test_ordinary(self):
        for text, formula in SAMPLES:
            self.assertEqual(write_formula(formula), text)

    def test_wrong(self):
        for thing in not_formulas():
            self.fails(BadFormula, thing, write_formula, thing)


class Reading(Case):
    def test_ordinary(self):
        for text, formula in SAMPLES:
            self.assertEqual(read_formula(text), formula)

    def test_no_string(self):
        for thing in any_things():
            if not isinstance(thing, str):
                self.fails(BadText, thing, read_formula, thing)

    def bad(self, text, at):
        self.assertEqual(SLOW.fault(text), at, text)
        self.fails(BadText, at, read_formula, text)

    def test_told_in_the_document(self):
        self.bad("(let + x)", 4)
        self.bad("sum(sum, ", 7)

    def test_cut_off(self):
        whole = 0
        for text, _ in SAMPLES:
            for end in range(len(text)):
                if SLOW.fault(text[:end]) is None:
                    read_formula(text[:end])
                    whole += 1
                else:
                    self.bad(text[:end], end)
        self.assertGreater(whole, 30)

    def test_one_character_changed(self):
        """Each character in turn left out, doubled, and changed into each of several."""
        read = 0
        for text, _ in SAMPLES:
            if len(text) > 20:
                text = text[:40]
            for at in range(len(text)):
                changed = [text[:at] + text[at + 1:], text[:at] + text[at] + text[at:]]
                changed += [text[:at] + sign + text[at + 1:] for sign in "a0 9(),+-*<s~A\n="]
                for one in changed:
                    fault = SLOW.fault(one)
                    if fault is not None:
                        self.fails(BadText, fault, read_formula, one)
                    else:
                        read += 1
                        self.reads_or_cannot_be_made(one)
        self.assertGreater(read, 200)

    def reads_or_cannot_be_made(self, text):
        try:
            self.assertEqual(write_formula(read_formula(text)), text)
        except (BadBound, BadName, TooMany):
            self.assertIsNotNone(re.search("sum", text))

    def test_numbers(self):
        self.bad("1" * 31, 30)
        self.bad("(x + " + "1" * 31 + ")", 35)
        self.bad("00", 1)
        self.bad("01", 1)
        self.bad("(x + 07)", 6)
        self.bad("sum(i, 00, i)", 8)
        self.bad("-1", 0)
        self.bad("1x", 1)
        self.bad("+1", 0)
        self.bad("1 ", 1)
        self.bad("1_0", 1)
        self.assertEqual(read_formula("1" * 30), Number(int("1" * 30)))

    def test_names(self):
        self.bad("abcdefghi", 8)
        self.bad("(abcdefghi + x)", 9)
        self.bad("sum(abcdefghi, n, x)", 12)
        self.bad("sum(i, abcdefghi, x)", 15)
        for word in WORDS:
            self.bad(word, len(word))
            self.bad(word + " ", len(word))
            self.bad(f"(x + {word})", 5 + len(word))
            self.bad(f"sum({word}, n, x)", 4 + len(word))
            self.bad(f"sum(i, {word}, x)", 7 + len(word))
            self.assertEqual(read_formula(word + "x"), Name(word + "x"))
            for end in range(1, len(word)):
                self.assertEqual(read_formula(word[:end]), Name(word[:end]))
            if word != "sum":
                self.bad(word + "(x)", len(word))
        self.bad("sum(x)", 5)
        self.bad("sum((", 4)
        self.bad("sum(i, sum(", 10)
        self.bad("sum(i, n(", 8)
        self.bad("sum(i, (", 7)
        self.bad("X", 0)
        self.bad("x1", 1)
        self.bad("", 0)

    def test_shifts(self):
        for number in range(65):
            self.assertEqual(read_formula(f"(x << {number})"), X << number)
        for text, at in (("65", 7), ("64", None), ("66", 7), ("70", 7), ("99", 7), ("100", 8), ("640", 8), ("00", 7),
                         ("01", 7), ("-1", 6), ("x", 6), ("", 6), ("(1)", 6)):
            if at is not None:
                self.bad(f"(x << {text})", at)
        self.bad("(x < 3)", 4)
        self.bad("(x << ", 6)
        self.bad("(x << 6", 7)

    def test_calls(self):
        self.assertEqual(read_formula("f(x, x, x, x)"), Call("f", [X] * 4))
        self.bad("f(x, x, x, x, x)", 12)
        self.bad("f(x, x, x, x,", 12)
        self.bad("f()", 2)
        self.bad("f(x,)", 4)
        self.bad("f(x,x)", 4)
        self.bad("f(x ,x)", 3)
        self.bad("f (x)", 1)
        self.bad("f(x)(x)", 4)
        self.bad("3(x)", 1)

    def test_blanks_and_signs(self):
        for text, at in (("( x + y)", 1), ("(x  + y)", 3), ("(x +  y)", 5), ("(x+y)", 2), ("(x + y )", 6), (" x", 0),
                         ("x ", 1), ("(x)", 2), ("(-x)", 2), ("(- x", 4), ("(-  x)", 3), ("(x / y)", 3), ("x + y", 1),
                         ("(x + y", 6), ("(x + y))", 7), ("(x + y + x)", 6), ("(x << y)", 6), ("()", 1), ("((", 2),
                         ("sum (i, n, i)", 3), ("sum(i,n, i)", 6), ("sum(i, n)", 8), ("sum(i, n, i, i)", 11),
                         ("sum(3, n, i)", 4), ("sum(", 4), ("x\n", 1), ("\nx", 0), ("(x\n+ y)", 2), ("(x =", 3)):
            self.bad(text, at)

    def test_by_lot(self):
        """Texts of a few parts, joined by lot, are read just as the automaton has it."""
        lot = by_lot(101)
        parts = ["(", ")", ", ", " + ", " * ", " << ", "- ", "x", "sum(", "i", "f(", "0", "6", "64", "let", " ", "(x + ",
                 "sum(i, n, ", "(- ", "x)"]
        for _ in range(3000):
            text = "".join(lot.choice(parts) for _ in range(lot.randrange(1, 7)))
            fault = SLOW.fault(text)
            if fault is None:
                self.reads_or_cannot_be_made(text)
            else:
                self.fails(BadText, fault, read_formula, text)


def deep_text(many):
    return "(- " * many + "x" + ")" * many


def wide_text(many):
    """A text of a sum with 2 * many - 1 parts that is not deep."""
    if many == 1:
        return "x"
    return f"({wide_text(many // 2)} + {wide_text(many - many // 2)})"


class Making(Case):
    def fails_with(self, error, value, text):
        self.assertIsNone(SLOW.fault(text))
        self.fails(error, value, read_formula, text)

    def test_what_cannot_be_made(self):
        self.fails_with(BadBound, I, "sum(i, i, x)")
        self.fails_with(BadName, "i", "sum(i, n, sum(i, n, x))")
        self.fails_with(BadName, "i", "sum(i, n, (x + sum(j, n, sum(i, j, x))))")
        self.assertEqual(read_formula("sum(i, n, (i + sum(j, i, x)))"), Sum("i", N, I + Sum("j", I, X)))
        self.assertEqual(read_formula("(sum(i, n, i) + sum(i, n, i))"), Sum("i", N, I) + Sum("i", N, I))

    def test_sizes(self):
        self.assertEqual(read_formula(deep_text(39)).depth, 40)
        for many in (40, 59):
            self.fails(TooMany, None, read_formula, deep_text(many))
        self.assertEqual(read_formula(wide_text(150)).parts, 299)
        self.assertEqual(read_formula(f"(- {wide_text(150)})").parts, 300)
        self.fails(TooMany, None, read_formula, wide_text(151))
        self.fails(TooMany, None, read_formula, f"f({wide_text(100)}, {wide_text(51)})")
        self.fails(TooMany, None, read_formula, f"sum(i, n, (- {wide_text(150)}))")

    def test_the_first_of_two(self):
        large = wide_text(151)
        self.fails(TooMany, None, read_formula, f"({large} + sum(i, i, x))")
        self.fails(BadBound, I, read_formula, f"(sum(i, i, x) + {large})")
        self.fails(BadBound, Name("j"), read_formula, "f(x, sum(j, j, x), sum(i, n, sum(i, n, x)))")
        self.fails(BadName, "i", read_formula, "f(x, sum(i, n, sum(i, n, x)), sum(j, j, x))")
        # What ends first is ahead, though it begins behind.
        self.fails(BadName, "j", read_formula, "sum(i, i, sum(j, n, sum(j, n, x)))")
        self.fails(BadBound, Name("j"), read_formula, "sum(i, i, sum(j, j, x))")
        self.fails(TooMany, None, read_formula, f"sum(i, i, {large})")
        self.fails(BadBound, I, read_formula, f"sum(i, i, {wide_text(150)})")
        self.fails(BadBound, Name("j"), read_formula, f"(- (- sum(i, n, ((- sum(j, j, i)) << 3))))")

    def test_bad_text_goes_ahead(self):
        for start in ("(sum(i, i, x)", "(sum(i, n, sum(i, n, x))", f"({wide_text(151)}", f"({deep_text(45)}"):
            self.fails(BadText, len(start) + 3, read_formula, start + " + )")
            self.fails(BadText, len(start), read_formula, start)
            self.fails(BadText, len(start) + 5, read_formula, start + " + x))"[:-1] + " ")

    def test_long_texts(self):
        text = wide_text(2300)
        self.assertGreater(len(text), 11000)
        self.fails(TooMany, None, read_formula, text)
        self.fails(BadText, len(text) - 1, read_formula, text[:-1])
        self.fails(BadText, len(text), read_formula, text + ")")
        self.fails(BadText, 8, read_formula, "x" * 20000)

    def test_back_again(self):
        lot = by_lot(102)
        for _ in range(300):
            formula = formula_by_lot(lot, 4)
            text = write_formula(formula)
            if len(text) < 50:
                self.assertIsNone(SLOW.fault(text))
            self.assertEqual(read_formula(text), formula)
            self.assertEqual(write_formula(read_formula(text)), text)


def formula_by_lot(lot, deep, indexes="ijk"):
    """A formula with calls, as is not asked of it that it is small."""
    kind = lot.randrange(8) if deep else lot.randrange(2)
    if kind == 0:
        return Number(lot.randrange(10 ** lot.randrange(31)))
    if kind == 1:
        return Name(lot.choice(["x", "y", "i", "sums", "wid", "ou"]))
    if kind == 2 and indexes:
        below = lot.choice([Name("n"), Number(lot.randrange(20))])
        return Sum(indexes[0], below, formula_by_lot(lot, deep - 1, indexes[1:]))
    one = formula_by_lot(lot, deep - 1, indexes)
    if kind == 3:
        return Call(lot.choice(["f", "lets"]), [one] * lot.randrange(1, 5))
    if kind == 4:
        return -one if lot.randrange(2) else one << lot.randrange(65)
    other = formula_by_lot(lot, deep - 1, indexes)
    return one + other if kind == 5 else one - other if kind == 6 else one * other
