"""Formulas over words: numbers, names, operations, sums and calls."""

from samewords.checks import check_name, check_shift, is_integer, is_row
from samewords.errors import BadBound, BadFormula, BadName, BadNumber, TooMany

MOST_PARTS = 300
MOST_DEPTH = 40
MOST_THINGS = 4
NUMBER_END = 10 ** 30


class Formula:
    """A formula over words; it is made by Number, Name, Sum, Call and the operators."""

    def __init__(self, kind, things, inner):
        """Make one of its kind and things; inner are the formulas whose parts it has."""
        parts = 1 + sum([one.parts for one in inner])
        depth = 1 + max([one.depth for one in inner], default=0)
        if parts > MOST_PARTS or depth > MOST_DEPTH:
            raise TooMany()
        self.kind = kind
        self.things = things
        self.parts = parts
        self.depth = depth

    def input_names(self):
        """Return the ascending list of the inputs."""
        return sorted(set(free_names(self)))

    def bound_names(self):
        """Return the ascending list of the inputs that bound a sum."""
        return sorted(set(free_bounds(self)))

    def with_input(self, name, other):
        """Return the formula with another one in the place of an input."""
        check_name(name)
        check_formula(other)
        if name in self.bound_names() and not isinstance(other, (Name, Number)):
            raise BadBound(other)
        barred = other.input_names() + index_names(other)
        clashing = [index for index in indexes_around(self, name) if index in barred]
        if clashing:
            raise BadName(min(clashing))
        return put_in(self, {name: other}, {})

    def __add__(self, other):
        check_formula(other)
        return Formula("plus", (self, other), (self, other))

    def __sub__(self, other):
        check_formula(other)
        return Formula("minus", (self, other), (self, other))

    def __mul__(self, other):
        check_formula(other)
        return Formula("times", (self, other), (self, other))

    def __neg__(self):
        return Formula("negative", (self,), (self,))

    def __lshift__(self, other):
        check_shift(other)
        return Formula("shift", (self, other), (self,))

    def __eq__(self, other):
        return isinstance(other, Formula) and self.kind == other.kind and self.things == other.things


class Number(Formula):
    """A number, kept as written; it counts modulo 2 ** width."""

    def __init__(self, n):
        if not is_integer(n) or not 0 <= n < NUMBER_END:
            raise BadNumber(n)
        Formula.__init__(self, "number", (n,), ())


class Name(Formula):
    """An input, or the index of a sum around it."""

    def __init__(self, name):
        check_name(name)
        Formula.__init__(self, "name", (name,), ())


class Sum(Formula):
    """The sum of body for index = 0, 1, 2 .. below - 1."""

    def __init__(self, index, below, body):
        check_name(index)
        if not isinstance(below, (Name, Number)) or below.things[0] == index:
            raise BadBound(below)
        check_formula(body)
        if index in index_names(body):
            raise BadName(index)
        Formula.__init__(self, "sum", (index, below, body), (body,))


class Call(Formula):
    """A call of a def of a program, with a formula for each of its parameters."""

    def __init__(self, name, things):
        check_name(name)
        if not is_row(things) or not 1 <= len(things) <= MOST_THINGS:
            raise BadFormula(things)
        for thing in things:
            check_formula(thing)
        Formula.__init__(self, "call", (name, tuple(things)), tuple(things))


def check_formula(thing):
    """Raise BadFormula for what is no formula; a call may stand in it."""
    if not isinstance(thing, Formula):
        raise BadFormula(thing)


def check_callless(thing):
    """Raise BadFormula for what is no formula, and for a formula with a call in it."""
    if not isinstance(thing, Formula) or has_call(thing):
        raise BadFormula(thing)


def inner_formulas(formula):
    """Return the tuple of the formulas directly in it; the bound of a sum is none of them."""
    if formula.kind in ("number", "name"):
        return ()
    if formula.kind == "shift":
        return formula.things[:1]
    if formula.kind == "sum":
        return formula.things[2:]
    if formula.kind == "call":
        return formula.things[1]
    return formula.things


def has_call(formula):
    """Tell whether a call stands in it."""
    return formula.kind == "call" or any([has_call(one) for one in inner_formulas(formula)])


def free_names(formula):
    """Return the list of the inputs, as often as they stand in it."""
    if formula.kind == "name":
        return [formula.things[0]]
    found = [name for one in inner_formulas(formula) for name in free_names(one)]
    if formula.kind == "sum":
        return outside_names(formula, found)
    return found


def free_bounds(formula):
    """Return the list of the inputs that bound a sum, as often as they do."""
    found = [name for one in inner_formulas(formula) for name in free_bounds(one)]
    if formula.kind == "sum":
        return outside_names(formula, found)
    return found


def outside_names(formula, found):
    """Return names found in the body of a sum, without its index and with the name of its bound."""
    index, below, _ = formula.things
    return [name for name in found if name != index] + free_names(below)


def index_names(formula):
    """Return the list of the indexes of the sums in it."""
    found = [index for one in inner_formulas(formula) for index in index_names(one)]
    if formula.kind == "sum":
        return [formula.things[0]] + found
    return found


def indexes_around(formula, name):
    """Return the list of the indexes of the sums that have the input in their body or as their bound."""
    if name not in formula.input_names():
        return []
    found = [index for one in inner_formulas(formula) for index in indexes_around(one, name)]
    if formula.kind == "sum":
        return [formula.things[0]] + found
    return found


def put_in(formula, things, renamed):
    """Return it with formulas in the place of inputs, all at once, and with new names for indexes."""
    if formula.kind == "name":
        return things.get(formula.things[0], formula)
    if formula.kind == "sum":
        index, below, body = formula.things
        new_index = renamed.get(index, index)
        # Within the body the index hides an input of the same name.
        inside = {name: things[name] for name in things if name != index}
        if new_index != index:
            inside[index] = Name(new_index)
        return Sum(new_index, put_in(below, things, renamed), put_in(body, inside, renamed))
    return with_inner(formula, [put_in(one, things, renamed) for one in inner_formulas(formula)])


def with_inner(formula, inner):
    """Return the formula of the same kind, no sum, with others in the place of those directly in it."""
    if formula.kind == "plus":
        return inner[0] + inner[1]
    if formula.kind == "minus":
        return inner[0] - inner[1]
    if formula.kind == "times":
        return inner[0] * inner[1]
    if formula.kind == "negative":
        return -inner[0]
    if formula.kind == "shift":
        return inner[0] << formula.things[1]
    if formula.kind == "call":
        return Call(formula.things[0], inner)
    return formula
