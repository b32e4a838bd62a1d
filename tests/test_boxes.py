"""Papers: [18]."""

import itertools

from samewords.boxes import box_paper, is_apart, is_box_paper
from samewords.errors import BadFormula, BadWidth, TooMany, Unlike
from samewords.formulas import Name, Number, Sum
from samewords.meaning import degrees, is_small, told
from samewords.verdicts import alike, apart
from tests.helper import (X, Y, Case, any_things, big_power, by_lot, inputs_of, not_callless, not_widths, product_of,
                          slow_told)
from tests.test_verdicts import names_of, pairs_by_lot

N = Name("n")
I = Name("i")
ONE = (X + Y) * (X - Y)
OTHER = X * X - Y * Y


def paper_of(formula, names, ends, width):
    """A paper made straight by the document."""
    rows = itertools.product(*[range(min(end, 2 ** width - 1) + 1) for end in ends])
    return tuple(ends), {row: slow_told(formula, width, dict(zip(names, row)))[0] for row in rows}


class BoxPapers(Case):
    def test_ordinary(self):
        self.assertEqual(box_paper(ONE, OTHER, 8), paper_of(ONE, ["x", "y"], (2, 2), 8))
        self.assertEqual(box_paper(ONE, OTHER, 1), paper_of(ONE, ["x", "y"], (1, 1), 1))
        self.assertEqual(box_paper(Number(3), Number(259), 8), ((), {(): 3}))
        self.assertEqual(box_paper(X - X, Y - Y, 64)[0], (1, 1))

    def test_by_lot(self):
        seen = 0
        for one, other in pairs_by_lot(51, 200):
            for width in (1, 2, 8, 64):
                if not alike(one, other, width):
                    self.fails(Unlike, apart(one, other, width), box_paper, one, other, width)
                    continue
                seen += 1
                found = box_paper(one, other, width)
                names = names_of(one, other)
                least = tuple(min(2 ** width - 1, degrees(one - other)[name]) for name in names)
                self.assertEqual(found, paper_of(one, names, least, width))
                self.assertIs(is_box_paper(one, other, width, found), True)
                self.assertIs(is_box_paper(other, one, width, found), True)
        self.assertGreater(seen, 50)

    def test_unlike(self):
        self.fails(Unlike, {"x": 0, "y": 1}, box_paper, X, Y, 8)
        # Where the words of the box are those of one alone, it is no paper.
        self.assertIs(is_box_paper(X, Y, 8, paper_of(X, ["x", "y"], (1, 1), 8)), False)
        self.assertIs(is_box_paper(X * X, X, 2, paper_of(X, ["x"], (1,), 2)), False)
        self.assertIs(is_box_paper(X * X, X, 1, paper_of(X, ["x"], (1,), 1)), True)

    def test_400_rows(self):
        full = product_of({"a": 4, "b": 4, "c": 3, "d": 3})
        paper = box_paper(full, full, 64)
        self.assertEqual(len(paper[1]), 400)
        self.assertIs(is_box_paper(full, full, 64, paper), True)
        self.assertEqual(len(box_paper(big_power("x", 12), big_power("x", 12), 3)[1]), 8)

    def test_longer_ends(self):
        names = ["x", "y"]
        for ends in ((2, 2), (3, 2), (2, 40), (40, 2), (19, 19)):
            self.assertIs(is_box_paper(ONE, OTHER, 64, paper_of(ONE, names, ends, 64)), True)
        for ends in ((1, 2), (2, 1), (2, 41), (19, 20), (40, 40)):
            self.assertIs(is_box_paper(ONE, OTHER, 64, paper_of(ONE, names, ends, 64)), False)
        # An end above 2 ** width - 1 counts as that.
        for ends in ((1, 1), (40, 40), (2, 2), (1, 40)):
            self.assertIs(is_box_paper(ONE, OTHER, 1, paper_of(ONE, names, ends, 1)), True)
        self.assertIs(is_box_paper(ONE, OTHER, 1, paper_of(ONE, names, (41, 1), 1)), False)
        self.assertIs(is_box_paper(ONE, OTHER, 1, paper_of(ONE, names, (0, 1), 1)), False)
        four = Name("a") + Name("b") + Name("c") + Name("d")
        self.assertIs(is_box_paper(four, four, 2, paper_of(four, list("abcd"), (40, 40, 40, 40), 2)), True)
        self.assertIs(is_box_paper(four, four, 3, paper_of(four, list("abcd"), (4, 4, 4, 4), 3)), False)

    def test_spoilt(self):
        ends, words = paper_of(ONE, ["x", "y"], (2, 2), 8)
        good = lambda change: (ends, change(dict(words)))
        without = lambda found: {row: found[row] for row in found if row != (1, 2)}
        spoilt = any_things() + [
            [ends, words], (ends, words, words), (ends,), (list(ends), words), (None, words), (ends, None),
            ((2,), words), ((2, 2, 2), words), ((2, True), words), ((2, None), words), ((2, -1), words),
            (ends, list(words.items())), good(without), good(lambda found: {**found, (3, 0): 9}),
            good(lambda found: {**without(found), (1, 3): 248}), good(lambda found: {**found, (1, 2): 3}),
            good(lambda found: {**found, (1, 2): None}), good(lambda found: {**found, (1, 0): True}),
            good(lambda found: {**found, (1, 2): 253 + 256}), good(lambda found: {**found, (1, 2): 253 - 256}),
            good(lambda found: {**without(found), (True, 2): 253}), good(lambda found: {**without(found), "xy": 253}),
            good(lambda found: {**without(found), (1, 2, 0): 253}), good(lambda found: {**without(found), 12: 253}),
            good(lambda found: {**found, (0, 0): False}), (ends, {}), (ends, dict.fromkeys(range(10 ** 5))),
            ((10 ** 5000, 2), words), ((2,) * 10 ** 5, words), ((), {(): 0})]
        self.assertIs(is_box_paper(ONE, OTHER, 8, (ends, words)), True)
        self.assertIs(is_box_paper(ONE, OTHER, 8, good(lambda found: dict(reversed(list(found.items()))))), True)
        for thing in spoilt:
            self.assertIs(is_box_paper(ONE, OTHER, 8, thing), False)
        self.assertEqual(words[(1, 2)], 253)
        self.assertIs(is_box_paper(Number(1), Number(1), 8, ((), {(): 1})), True)
        for thing in (((), {(): True}), ([], {(): 1}), ((), {}), ((), {(): 257}), ((), {(0,): 1})):
            self.assertIs(is_box_paper(Number(1), Number(1), 8, thing), False)

    def test_sums_of_many_turns(self):
        one = Sum("i", Number(2 ** 63), I) + X
        other = X + Number(told(Number(2 ** 62) * Number(2 ** 63 - 1), 64, {}))
        paper = box_paper(one, other, 64)
        self.assertEqual(sorted(paper[1]), [(0,), (1,)])
        self.assertIs(is_box_paper(one, other, 64, paper), True)

    def test_new(self):
        self.fresh(lambda: box_paper(ONE, OTHER, 8)[1])

    def test_wrong(self):
        far = big_power("x", 13)
        for function in (box_paper, lambda one, other, width: is_box_paper(one, other, width, None),
                         lambda one, other, width: is_apart(one, other, width, None)):
            for thing in not_callless():
                self.fails(BadFormula, thing, function, thing, None, None)
                self.fails(BadFormula, thing, function, far, thing, None)
            for width in not_widths():
                self.fails(BadWidth, width, function, far, far, width)
            self.fails(TooMany, None, function, far, far, 1)
            self.fails(TooMany, None, function, product_of({"a": 4, "b": 4, "c": 3}), big_power("d", 4), 64)


class Apart(Case):
    def test_by_lot(self):
        lot = by_lot(52)
        for one, other in pairs_by_lot(53, 40):
            names = names_of(one, other)
            for width in (1, 2):
                for values in inputs_of(names, width):
                    unlike = slow_told(one, width, values)[0] != slow_told(other, width, values)[0]
                    self.assertIs(is_apart(one, other, width, values), unlike)
            if is_small(one - other) and apart(one, other, 64) is not None:
                self.assertIs(is_apart(one, other, 64, apart(one, other, 64)), True)
                values = {name: lot.randrange(2 ** 6) for name in names}
                self.assertIs(is_apart(one, other, 64, values), told(one, 64, values) != told(other, 64, values))

    def test_spoilt(self):
        self.assertIs(is_apart(X, Y, 8, {"x": 1, "y": 255}), True)
        for thing in any_things() + [{"x": 1, "y": 1}, {"x": 1}, {"x": 1, "y": 2, "z": 0}, {"x": 1, "y": 256},
                                     {"x": 1, "y": -1}, {"x": 1, "y": False}, {"x": 1, "y": None}, {"x": 1, "z": 2},
                                     [("x", 1), ("y", 2)], ("x", 1, "y", 2), {"x": 1, 2: 2}, {"x": 1, "y": 10 ** 5000},
                                     dict.fromkeys(range(10 ** 5), 1)]:
            self.assertIs(is_apart(X, Y, 8, thing), False)
        self.assertIs(is_apart(Number(1), Number(2), 8, {}), True)
        self.assertIs(is_apart(Number(1), Number(257), 8, {}), False)
        self.assertIs(is_apart(Number(1), Number(2), 8, None), False)
        # Inputs that neither word hangs on are asked for, too.
        self.assertIs(is_apart(X - X, Number(2), 8, {"x": 9}), True)
        self.assertIs(is_apart(X - X, Number(2), 8, {}), False)

    def test_great_inputs(self):
        self.assertIs(is_apart(Sum("i", N, I), Number(0), 64, {"n": 2 ** 64 - 1}), True)
        self.assertIs(is_apart(Sum("i", N, I), Number(0), 64, {"n": 1}), False)
