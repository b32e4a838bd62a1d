"""What several tests share: slow reckoning, formulas by lot, wrong things, and asking for errors."""

import copy
import itertools
import random
import unittest

from samewords.desks import Desk
from samewords.errors import SameError
from samewords.flows import Flow
from samewords.formulas import Call, Formula, Name, Number, Sum
from samewords.machine import Machine
from samewords.programs import Choice, Program
from samewords.reports import Report
from samewords.tables import Table

WORDS = ("width", "in", "def", "let", "if", "then", "else", "out", "sum")
X = Name("x")
Y = Name("y")
CALL = Call("f", [X])
CODE = (("input", 0, "x"), ("out", 0, 0))


def nested(deep):
    thing = []
    for _ in range(deep - 1):
        thing = [thing]
    return thing


def any_things():
    """Things of each kind that an argument with a named error may be."""
    return [None, True, False, 0, 1, -1, 65, 10 ** 40, 10 ** 5000, "", "x", "sum", "A", "x y", "x\n", "abcdefghi",
            "x1", "~" * 10, [], ["x"], [X], (), ("x",), (1,), (X,), {}, {"x": 1}, {(1,): 1}, {1: {2: []}},
            nested(20), ({"x": [(None,)]},), Number(3), X, CALL, X + CALL, Sum("i", Number(3), X),
            Table(8, ("x",), {(1,): 1}), Choice(X, X, X, X), Program(8, ("x",), (), (), ("x",)), SameError(),
            Flow([("input", "x")], [0]), CODE, list(CODE), Machine(CODE, 8, {"x": 1}), Desk(),
            Report(Program(8, ("x",), (), (), ("x",)), [], CODE)]


def large_things():
    """Things that are very large, for what judges."""
    return [10 ** 5000, -10 ** 5000, "x" * 10 ** 5, [None] * 10 ** 5, (0,) * 10 ** 5, [()] * 10 ** 5,
            dict.fromkeys(range(10 ** 5), 1), [(1,)] * 10 ** 5, ((0,) * 10 ** 5, (0,) * 10 ** 5)]


def is_plain_integer(thing):
    return isinstance(thing, int) and not isinstance(thing, bool)


def is_right_name(thing):
    return isinstance(thing, str) and thing.isascii() and thing.isalpha() and thing.islower() \
        and 1 <= len(thing) <= 8 and thing not in WORDS


def not_names():
    return [thing for thing in any_things() if not is_right_name(thing)] + list(WORDS)


def not_integers():
    return [thing for thing in any_things() if not is_plain_integer(thing)]


def not_widths():
    return [thing for thing in any_things() if not is_plain_integer(thing) or not 1 <= thing <= 64]


def not_formulas():
    return [thing for thing in any_things() if not isinstance(thing, Formula)]


def not_callless():
    return not_formulas() + [CALL, X + CALL, Sum("i", Number(3), CALL), -CALL, CALL << 2, Call("g", [CALL, X])]


def not_tables():
    return [thing for thing in any_things() if not isinstance(thing, Table)]


def not_programs():
    return [thing for thing in any_things() if not isinstance(thing, Program)]


def not_codes():
    """Things that are no codes, but no tuples either: their fault is -1."""
    return [thing for thing in any_things() if not isinstance(thing, tuple) or not thing]


def not_rows():
    return [thing for thing in any_things() if not isinstance(thing, (list, tuple))]


def big_power(name, degree):
    """The formula name * name * .. with so many factors, put together so that it is not deep."""
    found = [Name(name)] * degree
    while len(found) > 1:
        found = [found[at] * found[at + 1] if at + 1 < len(found) else found[at] for at in range(0, len(found), 2)]
    return found[0]


def product_of(degrees):
    """A formula with these degrees by the text."""
    found = [big_power(name, degree) for name, degree in degrees.items()]
    whole = found[0]
    for factor in found[1:]:
        whole = whole * factor
    return whole


def slow_told(formula, width, values):
    """The word of a formula and the number of turns, straight by the document."""
    modulus = 2 ** width
    kind, things = formula.kind, formula.things
    if kind == "number":
        return things[0] % modulus, 0
    if kind == "name":
        return values[things[0]], 0
    if kind == "sum":
        index, below, body = things
        total = 0
        done = 0
        for turn in range(slow_told(below, width, values)[0]):
            word, more = slow_told(body, width, {**values, index: turn})
            total += word
            done += 1 + more
        return total % modulus, done
    word, done = slow_told(things[0], width, values)
    if kind == "negative":
        return -word % modulus, done
    if kind == "shift":
        return word * 2 ** things[1] % modulus, done
    other, more = slow_told(things[1], width, values)
    if kind == "plus":
        word = word + other
    elif kind == "minus":
        word = word - other
    else:
        assert kind == "times"
        word = word * other
    return word % modulus, done + more


def slow_word(formula, width, values, defs):
    """The word of a formula with calls: a call is worked out by the words of its things."""
    kind, things = formula.kind, formula.things
    if kind == "call":
        words = [slow_word(thing, width, values, defs) for thing in things[1]]
        parameters, body = defs[things[0]]
        return slow_word(body, width, dict(zip(parameters, words)), defs)
    if kind == "number":
        return things[0] % 2 ** width
    if kind == "name":
        return values[things[0]]
    if kind == "sum":
        index, below, body = things
        return sum(slow_word(body, width, {**values, index: turn}, defs)
                   for turn in range(slow_word(below, width, values, defs))) % 2 ** width
    word = slow_word(things[0], width, values, defs)
    if kind == "negative":
        return -word % 2 ** width
    if kind == "shift":
        return (word << things[1]) % 2 ** width
    other = slow_word(things[1], width, values, defs)
    return {"plus": word + other, "minus": word - other, "times": word * other}[kind] % 2 ** width


def slow_words(program, values):
    """The words of the inputs and of all lets, straight by the document."""
    defs = {name: (parameters, body) for name, parameters, body in program.defs}
    words = dict(values)
    for name, value in program.lets:
        if isinstance(value, Choice):
            left = slow_word(value.left, program.width, words, defs)
            right = slow_word(value.right, program.width, words, defs)
            value = value.same if left == right else value.other
        words[name] = slow_word(value, program.width, words, defs)
    return words


def slow_run(program, values):
    """The words of the outs, straight by the document."""
    words = slow_words(program, values)
    return {name: words[name] for name in program.outs}


def slow_degree(formula, name, lets):
    """The degree by the text in an input, where the names of lets stand for their formulas."""
    kind, things = formula.kind, formula.things
    if kind == "number":
        return 0
    if kind == "name":
        return slow_degree(lets[things[0]], name, lets) if things[0] in lets else int(things[0] == name)
    if kind == "sum":
        index, below, body = things
        inside = slow_degree(body, name, lets) if name != index else 0
        return inside + (slow_degree(body, index, lets) + 1 if below == Name(name) else 0)
    if kind in ("negative", "shift"):
        return slow_degree(things[0], name, lets)
    one, other = slow_degree(things[0], name, lets), slow_degree(things[1], name, lets)
    return one + other if kind == "times" else max(one, other)


def slow_choose(x, e):
    found = 1
    for at in range(e):
        found = found * (x - at) // (at + 1)
    return found


def slow_word_at(table, values):
    found = 0
    for pick, word in table.rows():
        for name, number in zip(table.inputs, pick):
            word *= slow_choose(values[name], number)
        found += word
    return found % 2 ** table.width


def inputs_of(names, width, most=None):
    """All inputs of these names, or those with small and with great numbers."""
    numbers = list(range(2 ** width)) if most is None or 2 ** width <= most else list(range(most))
    return [dict(zip(names, row)) for row in itertools.product(numbers, repeat=len(names))]


def by_lot(seed):
    return random.Random(seed)


def formula_by_lot(lot, names, deep, bounds=(), indexes="ijk"):
    """A formula of these names, with sums that are bounded by numbers and by the names in bounds."""
    choice = lot.randrange(9 if deep > 0 else 2)
    if choice == 0:
        return Number(lot.choice([0, 1, 2, 3, 5, 8, 255, 2 ** 64 + 1]))
    if choice in (1, 2):
        return Name(lot.choice(names)) if names else Number(7)
    one = formula_by_lot(lot, names, deep - 1, bounds, indexes)
    if choice == 3:
        return -one
    if choice == 4:
        return one << lot.randrange(4)
    if choice == 5 and indexes:
        below = Name(lot.choice(bounds)) if bounds and lot.randrange(3) else Number(lot.randrange(4))
        index = indexes[0]
        return Sum(index, below, formula_by_lot(lot, list(names) + [index], deep - 1,
                                                list(bounds) + [index], indexes[1:]))
    other = formula_by_lot(lot, names, deep - 1, bounds, indexes)
    if choice == 6:
        return one + other
    if choice == 7:
        return one - other
    return one * other


def plain_by_lot(lot, width, many=5):
    """A plain program, some of whose lets are equal, bare, unused or always of the same word."""
    defs = [("f", ("p", "q"), Sum("k", Name("p"), Name("q") + Name("k"))), ("g", ("p",), Name("p") * Number(2))]
    lets = []
    for at in range(many):
        names = ["x", "n"] + [name for name, _ in lets]
        one = Name(lot.choice(names))
        lets.append(("abcdehl"[at], lot.choice([
            lambda: one, lambda: Number(lot.randrange(4)), lambda: one - one, lambda: one + Number(0),
            lambda: one << lot.randrange(3), lambda: Call("f", [Name(lot.choice("xn")), one]),
            lambda: Call("g", [one]), lambda: one * X, lambda: lets[-1][1] if lets else X,
            lambda: formula_by_lot(lot, names, 2, ["x", "n"]), lambda: formula_by_lot(lot, names, 1, ["x", "n"])])()))
    outs = lot.sample([name for name, _ in lets] + ["n"], lot.randrange(1, 3))
    return Program(width, ["x", "n"], defs, lets, outs)


class Case(unittest.TestCase):
    """A test case that asks for an error with its value."""

    def fails(self, error, value, function, *arguments):
        """The call raises just this error with just this value, and leaves the arguments as they were."""
        before = copy.deepcopy(arguments)
        with self.assertRaises(SameError) as caught:
            function(*arguments)
        self.assertIs(type(caught.exception), error)
        self.assertIs(type(caught.exception.value), type(value))
        self.assertTrue(caught.exception.value is value or caught.exception.value == value)
        for one, other in zip(before, arguments):
            if isinstance(one, (list, tuple, dict)):
                self.assertEqual(repr_of(one), repr_of(other))

    def fresh(self, function):
        """The function returns a new list or dict each time, which may be changed."""
        first = function()
        kept = copy.deepcopy(first)
        second = function()
        self.assertIsNot(first, second)
        first.clear()
        self.assertEqual(second, kept)
        self.assertEqual(function(), kept)


def repr_of(thing):
    """A text of a thing in which own objects are told by their kind alone."""
    if isinstance(thing, dict):
        return "{" + ", ".join(f"{repr_of(key)}: {repr_of(thing[key])}" for key in thing) + "}"
    if isinstance(thing, (list, tuple)):
        return type(thing).__name__ + "(" + ", ".join(repr_of(one) for one in thing) + ")"
    if isinstance(thing, int) and not isinstance(thing, bool):
        return hex(thing)
    if thing is None or isinstance(thing, (str, bool)):
        return repr(thing)
    return type(thing).__name__
