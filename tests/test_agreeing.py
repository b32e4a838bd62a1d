"""At how many inputs formulas agree: [29] to [32]."""

import itertools
from math import factorial

from samewords.agreeing import (class_kind, class_paper, is_class_paper, meets, nearest, profile, profile_of, verdict)
from samewords.errors import BadClass, BadFormula, BadWidth, TooMany
from samewords.formulas import Call, Name, Number, Sum
from samewords.meaning import told
from tests.helper import (X, Y, Case, any_things, big_power, by_lot, formula_by_lot, inputs_of, large_things,
                          not_callless, not_widths, product_of, slow_told)

Z = Name("z")
ONE = Number(1)
ZERO = Number(0)
# The walk of these two meets far more than 300 classes.
FAR = X * X
FURTHER = X * (Y << 3)


def names_of(one, other):
    return sorted(set(one.input_names() + other.input_names()))


def twos(number, width):
    if number == 0:
        return width
    found = 0
    while number % 2 == 0 and found < width:
        number, found = number // 2, found + 1
    return found


def expanded(formula, names, j, numbers):
    """The whole coefficients of a formula as a polynomial in the t's, by their exponents."""
    kind, things = formula.kind, formula.things
    none = (0,) * len(names)
    if kind == "number":
        return {none: things[0]}
    if kind == "name":
        at = names.index(things[0])
        return {none: numbers[at], none[:at] + (1,) + none[at + 1:]: 2 ** j}
    one = expanded(things[0], names, j, numbers)
    if kind in ("negative", "shift"):
        factor = -1 if kind == "negative" else 2 ** things[1]
        return {key: factor * one[key] for key in one}
    other = expanded(things[1], names, j, numbers)
    if kind == "times":
        found = {}
        for key in one:
            for more in other:
                both = tuple(a + b for a, b in zip(key, more))
                found[both] = found.get(both, 0) + one[key] * other[more]
        return found
    sign = 1 if kind == "plus" else -1
    return {key: one.get(key, 0) + sign * other.get(key, 0) for key in set(one) | set(other)}


def surjections(many, onto):
    """The coefficient of C(t, onto) in t ** many."""
    return sum((-1) ** (onto - k) * factorial(onto) // factorial(k) // factorial(onto - k) * k ** many
               for k in range(onto + 1))


def slow_kind(one, other, width, j, numbers):
    """The kind of a class and its v, straight by the document."""
    names = names_of(one, other)
    g = expanded(one - other, names, j, numbers)
    c = {}
    for key, number in g.items():
        for pick in itertools.product(*[range(e + 1) for e in key]):
            ways = 1
            for e, f in zip(key, pick):
                ways *= surjections(e, f)
            c[pick] = c.get(pick, 0) + number * ways
    c = {pick: twos(c[pick], width) for pick in c if all(e < 2 ** (width - j) for e in pick)}
    g = {key: twos(g[key], width) for key in g}
    none = (0,) * len(names)
    if all(count == width for count in c.values()):
        return "full", width
    least = c.get(none, width)
    if least < width and all(least < c[pick] for pick in c if pick != none):
        return "apart", least
    v = min([g[key] for key in g if sum(key) == 1], default=width)
    if v < width and v <= g.get(none, width) and all(v < g[key] for key in g if sum(key) > 1):
        return "steady", v
    return "split", None


def slow_walk(one, other, width, most=300):
    """All classes that are met, with their kinds, None for more than so many."""
    names = names_of(one, other)
    row = [(0, (0,) * len(names))]
    for j, numbers in row:
        if slow_kind(one, other, width, j, numbers)[0] == "split":
            for bits in itertools.product((0, 1), repeat=len(names)):
                row.append((j + 1, tuple(number + 2 ** j * bit for number, bit in zip(numbers, bits))))
        if len(row) > most:
            return None
    return [(j, numbers, *slow_kind(one, other, width, j, numbers)) for j, numbers in row]


def agreements(one, other, width):
    """For each input in how many lowest bits the words agree."""
    return [(values, twos(slow_told(one, width, values)[0] - slow_told(other, width, values)[0], width))
            for values in inputs_of(names_of(one, other), width)]


def slow_profile(one, other, width):
    counts = [count for _, count in agreements(one, other, width)]
    return [sum(count >= k for count in counts) for k in range(width + 1)]


def pairs_by_lot(seed, many, most_width=3):
    lot = by_lot(seed)
    found = []
    while len(found) < many:
        names = ["x", "y", "z"][:lot.randrange(4)]
        width = lot.randrange(1, most_width + 1) if len(names) < 3 else lot.randrange(1, 3)
        one, other = formula_by_lot(lot, names, 4, (), ""), formula_by_lot(lot, names, 2, (), "")
        if slow_walk_is_short(one, other, width):
            found.append((one, other, width))
    return found


def slow_walk_is_short(one, other, width):
    try:
        class_paper(one, other, width)
        return True
    except TooMany:
        return False


class Profiles(Case):
    def test_ordinary(self):
        self.assertEqual(profile(X, Y, 2), [16, 8, 4])
        self.assertEqual(profile(X, X, 3), [8, 8, 8, 8])
        self.assertEqual(profile(X, X + ONE, 3), [8, 0, 0, 0])
        self.assertEqual(profile(X * X, X, 3), [8, 8, 4, 2])
        self.assertEqual(profile(Number(3), Number(7), 4), [1, 1, 1, 0, 0])
        self.assertEqual(profile(Number(3), Number(19), 4), [1] * 5)
        self.assertEqual(profile(X * Number(3), ONE, 64), [2 ** (64 - k) for k in range(65)])

    def test_by_lot(self):
        for one, other, width in pairs_by_lot(91, 200):
            expected = slow_profile(one, other, width)
            self.assertEqual(profile(one, other, width), expected)
            said = "always" if expected[-1] == expected[0] else "sometimes" if expected[-1] else "never"
            self.assertEqual(verdict(one, other, width), said)
            self.assertEqual(nearest(one, other, width), max(k for k in range(width + 1) if expected[k]))

    def test_verdicts(self):
        for one, other, width, said, bits in (
                (X, X, 64, "always", 64), (X, X + ONE, 64, "never", 0), (X * X, X, 1, "always", 1),
                (X * X, X, 2, "sometimes", 2), (X * X, Number(3), 64, "never", 1), (X * X, Number(5), 64, "never", 2),
                (X * X, Number(17), 64, "sometimes", 64), (X << 64, ZERO, 64, "always", 64),
                (X << 1, ONE, 64, "never", 0), (X << 63, Number(2 ** 63), 64, "sometimes", 64),
                (X * X * X, Number(8), 64, "sometimes", 64)):
            self.assertEqual(verdict(one, other, width), said)
            self.assertEqual(nearest(one, other, width), bits)
            self.assertIsInstance(verdict(one, other, width), str)

    def test_width_64(self):
        self.assertEqual(profile(X * X, Number(17), 64)[-1], 4)
        self.assertEqual(profile(X * X * X, Number(8), 64)[-1], 4)
        self.assertEqual(profile(X * Y, ONE, 64)[-1], 2 ** 63)
        self.assertEqual(profile(X * Y, ONE, 64)[0], 2 ** 128)

    def test_new_list(self):
        self.fresh(lambda: profile(X, Y, 3))


class Kinds(Case):
    def kind(self, one, other, width, thing, kind, v):
        self.assertEqual(class_kind(one, other, width, thing), (kind, v))
        self.assertEqual(slow_kind(one, other, width, *thing), (kind, v))

    def test_ordinary(self):
        self.kind(X, Y, 8, (0, (0, 0)), "steady", 0)
        self.kind(X, X, 8, (0, (0,)), "full", 8)
        self.kind(X, X + Number(4), 8, (0, (0,)), "apart", 2)
        self.kind(X * X, X, 8, (0, (0,)), "split", None)
        self.kind(X * X, X, 8, (1, (1,)), "steady", 1)
        self.kind(X * X, Number(17), 8, (1, (0,)), "apart", 0)
        self.kind(X * X, Number(17), 8, (2, (3,)), "steady", 3)
        self.kind(Number(3), Number(3), 8, (0, ()), "full", 8)
        self.kind(Number(3), Number(5), 8, (0, ()), "apart", 1)
        self.kind(Number(3), Number(5), 8, (5, ()), "apart", 1)

    def test_what_is_left_out(self):
        # Of two inputs there is no pick with a 2, of one none with a 1.
        self.kind(X * X - X, ZERO, 1, (0, (0,)), "full", 1)
        self.kind(X * X + X, ZERO, 2, (1, (0,)), "steady", 1)
        self.kind(X * X + X, ONE, 1, (0, (0,)), "apart", 0)
        self.kind((X * X - X) * (X - Number(2)), ONE, 2, (1, (0,)), "apart", 0)
        self.kind(big_power("x", 4) - X, Number(2), 4, (2, (3,)), "steady", 2)

    def test_j_is_the_width(self):
        for width in (1, 3, 64):
            for number in (0, 1, 2 ** width - 1):
                self.kind(X * X, X, width, (width, (number,)),
                          *(("full", width) if number < 2 else ("apart", 1)))
        self.kind(X * Y, X, 2, (2, (3, 1)), "full", 2)
        self.kind(X * Y, X, 2, (2, (2, 2)), "apart", 1)

    def test_each_bound_of_steady(self):
        # v is less than the twos of what has two or more t's, not above those of what has none.
        self.kind(X + X * X + X * X, ZERO, 8, (0, (0,)), "steady", 0)
        self.kind(X + X * X, ZERO, 8, (0, (0,)), "split", None)
        self.kind((X << 1) + X * Y * Number(4) + Y * Number(2), Number(2), 8, (0, (0, 0)), "steady", 1)
        self.kind((X << 1) + X * Y * Number(2) + Y * Number(2), Number(2), 8, (0, (0, 0)), "split", None)
        self.kind((X << 1) + X * X * Number(4), Number(4), 8, (0, (0,)), "steady", 1)
        self.kind((X << 2) + X * X * Number(2), Number(4), 8, (0, (0,)), "split", None)
        self.kind((X << 1) + X * Y * Number(4), ONE, 8, (0, (0, 0)), "apart", 0)
        self.kind((X << 7) + (Y << 6), Number(64), 8, (0, (0, 0)), "steady", 6)

    def test_by_lot(self):
        lot = by_lot(92)
        seen = {}
        for one, other, width in pairs_by_lot(93, 300, 4):
            for _ in range(3):
                j = lot.randrange(width + 1)
                thing = (j, tuple(lot.randrange(2 ** j) for _ in names_of(one, other)))
                found = class_kind(one, other, width, thing)
                self.assertEqual(found, slow_kind(one, other, width, *thing))
                self.check_what_it_says(one, other, width, thing, found)
                seen[found[0]] = seen.get(found[0], 0) + 1
        self.assertGreater(min(seen.values()), 30)
        self.assertEqual(len(seen), 4)

    def check_what_it_says(self, one, other, width, thing, found):
        names = names_of(one, other)
        held = [count for values, count in agreements(one, other, width)
                if tuple(values[name] % 2 ** thing[0] for name in names) == thing[1]]
        if found[0] == "steady":
            for k in range(found[1], width + 1):
                self.assertEqual(sum(count >= k for count in held), len(held) // 2 ** (k - found[1]))
        elif found[0] != "split":
            self.assertEqual(set(held), {found[1]})

    def test_bad_class(self):
        for thing in any_things() + large_things() + [
                (0, (0,)), (0, (0, 0, 0)), (0, [0, 0]), [0, (0, 0)], (0, (0, 0), 0), (-1, (0, 0)), (9, (0, 0)),
                (True, (0, 0)), (1, (0, True)), (1, (0, 2)), (1, (-1, 0)), (0, (0, 1)), (8, (0, 256)), (10 ** 9, (0, 0)),
                (1, (0, None)), (1, ("0", 0)), (None, (0, 0)), ("0", (0, 0)), (8, (10 ** 5000, 0))]:
            self.fails(BadClass, thing, class_kind, X, Y, 8, thing)
        self.assertEqual(class_kind(X, Y, 8, (8, (255, 254))), ("apart", 0))

    def test_nothing_is_walked(self):
        self.fails(TooMany, None, class_paper, FAR, FURTHER, 64)
        self.assertEqual(class_kind(FAR, FURTHER, 64, (0, (0, 0))), ("split", None))
        self.assertEqual(class_kind(FAR, FURTHER, 64, (1, (1, 0))), ("apart", 0))


class Walks(Case):
    def test_ordinary(self):
        self.assertEqual(class_paper(X * X, X, 3), [(1, (0,), "steady", 1), (1, (1,), "steady", 1)])
        self.assertEqual(class_paper(X * X, Number(17), 8), [
            (1, (0,), "apart", 0), (2, (1,), "steady", 3), (2, (3,), "steady", 3)])
        self.assertEqual(class_paper(X, X, 8), [(0, (0,), "full", 8)])
        self.assertEqual(class_paper(Number(1), Number(2), 8), [(0, (), "apart", 0)])

    def test_by_lot(self):
        for one, other, width in pairs_by_lot(94, 150, 4):
            met = slow_walk(one, other, width)
            found = class_paper(one, other, width)
            self.assertEqual(found, sorted(item for item in met if item[2] != "split"))
            self.assertEqual([type(item) for item in found], [tuple] * len(found))
            self.assertIs(is_class_paper(one, other, width, found), True)
            self.assertEqual(profile_of(width, len(names_of(one, other)), found), slow_profile(one, other, width))

    def test_300_classes_and_more(self):
        # With one input there are 299 classes or 301, with two 297 or 301.
        squares = [self.with_roots(roots) for roots in ((6, 4, 16, 5, 8, 17), (3, 9, 1, 64, 2, 4))]
        self.walks(squares[0], ZERO, 61, 299)
        self.walks(squares[1], ZERO, 58, 289)
        self.walks(squares[1], ZERO, 59, 301)
        self.walks(X * X * (X - ONE) * (X - ONE), X * (Y << 4), 14, 297)
        self.walks(FAR, X * (Y << 2), 39, 293)
        self.walks(FAR, X * (Y << 2), 40, 301)

    def walks(self, one, other, width, many):
        met = slow_walk(one, other, width)
        for function in Errors.functions[:5]:
            if many > 300:
                self.assertIsNone(met)
                self.fails(TooMany, None, function, one, other, width)
            else:
                self.assertEqual(len(met), many)
                function(one, other, width)

    def with_roots(self, roots):
        product = ONE
        for root in roots:
            product = product * (X - Number(root)) * (X - Number(root))
        return product

    def test_judge(self):
        one, other = X * X, Number(17)
        paper = class_paper(one, other, 8)
        good = lambda thing: self.assertIs(is_class_paper(one, other, 8, thing), True)
        bad = lambda thing: self.assertIs(is_class_paper(one, other, 8, thing), False)
        good(paper)
        good(tuple(paper))
        good(paper[::-1])
        # A class may be told in parts, as long as these have a kind.
        good(paper[1:] + [(2, (0,), "apart", 0), (2, (2,), "apart", 0)])
        good(paper[:2] + [(3, (3,), "apart", 3), (3, (7,), "steady", 4)])
        for at, item in enumerate(paper):
            rest = paper[:at] + paper[at + 1:]
            bad(rest)
            bad(paper + [item])
            bad(rest + [list(item)])
            bad(rest + [item + (0,)])
            bad(rest + [item[:3]])
            for place in range(4):
                for value in [thing for thing in any_things() if thing != item[place]] + [True, item[place:]]:
                    bad(rest + [item[:place] + (value,) + item[place + 1:]])
            for kind in ("full", "apart", "steady", "split"):
                for v in (None, 0, 1, 2, 3, 4, 8):
                    if (kind, v) != item[2:]:
                        bad(rest + [item[:2] + (kind, v)])
        bad(paper[1:] + [(2, (0,), "apart", 0)])
        bad(paper + [(2, (0,), "apart", 0)])
        bad(paper[1:] + [(2, (0,), "apart", 0), (2, (0,), "apart", 0)])
        # As many inputs as there are, but those of one class are in another one, too, and others in none.
        bad(paper[:1] + [(2, (0,), "apart", 0), (2, (2,), "apart", 0)])
        bad([(2, (2,), "apart", 0), (2, (0,), "apart", 0)] + paper[:1])
        bad(paper[1:2] + [(3, (1,), "steady", 4), (3, (5,), "apart", 3), (2, (3,), "steady", 3), (2, (0,), "apart", 0)])
        bad(paper[:2] + [(3, (2,), "apart", 0), (3, (6,), "apart", 0)])
        good(paper[2:] + [(3, (1,), "steady", 4), (3, (5,), "apart", 3), (2, (0,), "apart", 0), (2, (2,), "apart", 0)])
        bad([(0, (0,), "split", None)])
        bad([(0, (0, 0), "steady", 0)])
        bad([])
        for thing in any_things() + large_things() + [{item: True for item in paper}, paper * 10 ** 4]:
            bad(thing)

    def test_judge_of_flags(self):
        bad = lambda one, other, width, thing: self.assertIs(is_class_paper(one, other, width, thing), False)
        self.assertIs(is_class_paper(X, X + ONE, 1, [(0, (0,), "apart", 0)]), True)
        bad(X, X + ONE, 1, [(False, (0,), "apart", 0)])
        bad(X, X + ONE, 1, [(0, (False,), "apart", 0)])
        bad(X, X + ONE, 1, [(0, (0,), "apart", False)])
        bad(X, X, 1, [(0, (0,), "full", True)])
        self.assertIs(is_class_paper(ONE, ONE, 2, [(2, (), "full", 2)]), True)
        bad(ONE, ONE, 2, [(0, (), "full", 2), (1, (), "full", 2)])
        bad(ONE, ONE, 2, [])

    def test_judge_where_the_walk_is_too_long(self):
        self.fails(TooMany, None, class_paper, FAR, FURTHER, 64)
        self.assertIs(is_class_paper(FAR, FURTHER, 64, [(0, (0, 0), "steady", 0)]), False)
        self.assertIs(is_class_paper(X * X * X, Y * Y * Y, 64, []), False)
        square = slow_walk_of_all(X * X, Y * Y, 4)
        self.assertIs(is_class_paper(X * X, Y * Y, 4, square), True)
        many = X * Y * Z
        paper = [item for item in slow_walk(many, ZERO, 9, 500) if item[2] != "split"]
        self.fails(TooMany, None, class_paper, many, ZERO, 9)
        self.assertIs(is_class_paper(many, ZERO, 9, paper), True)
        self.assertIs(is_class_paper(many, ZERO, 9, paper[1:]), False)
        # At how many inputs the product of three words of 9 bits is 0.
        self.assertEqual(profile_of(9, 3, paper)[9], zeros_of_products(9))

    def test_long_papers(self):
        row = [(9, (number,), *class_kind(X, Number(5), 16, (9, (number,)))) for number in range(512)]
        self.assertIs(is_class_paper(X, Number(5), 16, row), True)
        self.assertIs(is_class_paper(X, Number(5), 16, row[1:] + row[-1:]), False)
        self.assertEqual(profile_of(16, 1, row), profile(X, Number(5), 16))

    def test_profile_of(self):
        self.assertEqual(profile_of(3, 2, [(0, (0, 0), "steady", 1)]), [64, 64, 32, 16])
        self.assertEqual(profile_of(2, 1, ((1, (0,), "apart", 1), (1, (1,), "full", 2))), [4, 4, 2])
        self.assertEqual(profile_of(64, 0, [(0, (), "apart", 2)]), [1] * 3 + [0] * 62)
        for width in not_widths():
            self.fails(BadWidth, width, profile_of, width, 1, [])
        self.fresh(lambda: profile_of(2, 1, [(0, (0,), "full", 2)]))

    def test_new_list(self):
        self.fresh(lambda: class_paper(X * X, X, 8))


def zeros_of_products(width):
    """At how many inputs the product of three words is 0, by how often 2 divides each."""
    counts = [2 ** (width - 1 - count) if count < width else 1 for count in range(width + 1)]
    return sum(counts[a] * counts[b] * counts[c] for a, b, c in itertools.product(range(width + 1), repeat=3)
               if a + b + c >= width)


def slow_walk_of_all(one, other, width):
    """The classes of j = width, each by itself, as a paper."""
    names = names_of(one, other)
    row = itertools.product(range(2 ** width), repeat=len(names))
    return [(width, numbers, *slow_kind(one, other, width, width, numbers)) for numbers in row]


def place_of(values, width):
    """What inputs are ordered by: the lowest bits, then the next bits, and so on."""
    names = sorted(values)
    return [[values[name] >> bit & 1 for name in names] for bit in range(width)]


class Meeting(Case):
    def test_ordinary(self):
        self.assertEqual(meets(X, Y + ONE, 8), {"x": 0, "y": 255})
        self.assertEqual(meets(X, Y, 8), {"x": 0, "y": 0})
        self.assertEqual(meets(X, Number(200), 8), {"x": 200})
        self.assertIsNone(meets(X * X, Number(3), 8))
        self.assertEqual(meets(Number(3), Number(3), 8), {})
        self.assertIsNone(meets(Number(3), Number(4), 8))
        self.assertEqual(meets(X * X, X, 8), {"x": 0})
        self.assertEqual(meets(X * Number(3), Y * Number(5) + Z * Number(7) + ONE, 4), {"x": 0, "y": 0, "z": 9})

    def test_by_lot(self):
        seen = 0
        for one, other, width in pairs_by_lot(95, 250, 4):
            agreed = [values for values, count in agreements(one, other, width) if count == width]
            found = meets(one, other, width)
            self.assertEqual(found, min(agreed, key=lambda values: place_of(values, width), default=None))
            seen += len(agreed) not in (0, 2 ** (width * len(names_of(one, other))))
        self.assertGreater(seen, 60)

    def test_width_64(self):
        found = meets(X * X, Number(17), 64)
        self.assertEqual(told(X * X, 64, found), 17)
        self.assertEqual(found["x"] % 8, 1)
        found = meets(X * X * X + Y * Number(2), Number(12345), 64)
        self.assertEqual(told(X * X * X + Y * Number(2), 64, found), 12345)

    def test_new_dict(self):
        self.fresh(lambda: meets(X, Y, 8))


class Errors(Case):
    functions = (profile, verdict, nearest, class_paper, meets,
                 lambda one, other, width: class_kind(one, other, width, None),
                 lambda one, other, width: is_class_paper(one, other, width, None))

    def test_wrong(self):
        far = big_power("x", 13)
        sums = [Sum("i", Number(2), X), X + Sum("i", Number(0), Name("i")), -(Sum("i", Y, X) * X), Call("f", [X])]
        for function in self.functions:
            for thing in not_callless() + sums:
                self.fails(BadFormula, thing, function, thing, None, None)
                self.fails(BadFormula, thing, function, far, thing, None)
            for width in not_widths():
                self.fails(BadWidth, width, function, far, far, width)
            self.fails(TooMany, None, function, far, far, 1)
            self.fails(TooMany, None, function, X, far, 64)
            self.fails(TooMany, None, function, product_of({"a": 4, "b": 4, "c": 3}), big_power("d", 4), 1)
            self.fails(TooMany, None, function, Name("a") + Name("b") + X + Y, Z, 1)
        self.fails(TooMany, None, class_kind, far, far, 1, (0, (0,)))
        self.assertEqual(profile(big_power("x", 12), X, 1), [2, 2])
        full = product_of({"a": 4, "b": 4, "c": 3, "d": 3})
        self.assertEqual(class_kind(full, ZERO, 1, (0, (0,) * 4)), ("split", None))
        self.assertEqual(profile(full, ZERO, 1), [16, 15])

    def test_too_many_of_the_walk(self):
        for function in self.functions[:5]:
            self.fails(TooMany, None, function, FAR, FURTHER, 64)
        self.fails(BadClass, 3, class_kind, FAR, FURTHER, 64, 3)
