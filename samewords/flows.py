"""Flows: rows of single operations, and the flow that a plain program is."""

from samewords.checks import (check_values, check_width, head_word, is_integer, is_name, is_row, is_set_number,
                              is_shift)
from samewords.errors import BadNumber, BadValues, BadWants, HasSum, TooMany
from samewords.formulas import Name, Number, index_names
from samewords.plain import laid_plain

MOST_OPERATIONS = 40
MOST_WANTS = 8
FORMS = {"input": ("name",), "set": ("number",), "add": ("value", "value"), "sub": ("value", "value"),
         "mul": ("value", "value"), "neg": ("value",), "shl": ("value", "shift")}
WORDS = {"plus": "add", "minus": "sub", "times": "mul", "negative": "neg", "shift": "shl"}


class Flow:
    """A row of operations, the values, and the numbers of those that are wanted."""

    def __init__(self, values, wants):
        check_operations(values)
        check_wants(wants, len(values))
        self.operations = tuple(values)
        self.wants = tuple(wants)

    def input_names(self):
        """Return the ascending list of the names of the inputs."""
        return sorted([operation[1] for operation in self.operations if operation[0] == "input"])

    def uses(self, number):
        """Return the ascending list of the numbers of the values that have this one as an argument."""
        check_value_number(number, len(self))
        return [at for at, operation in enumerate(self.operations) if number in arguments_of(operation)]

    def formula(self, number):
        """Return the formula of a value, written out."""
        check_value_number(number, len(self))
        # Values that it does not rest on are not made, as these may be too large.
        needed = {number: True}
        for at in range(number, -1, -1):
            if at in needed:
                for one in arguments_of(self.operations[at]):
                    needed[one] = True
        made = {}
        for at in sorted(needed):
            made[at] = formula_of_operation(self.operations[at], made)
        return made[number]

    def words(self, width, values):
        """Return the list of the words of all values at an input."""
        check_width(width)
        check_values(self.input_names(), width, values)
        found = []
        for operation in self.operations:
            found.append(word_of_operation(operation, found, values) & ((1 << width) - 1))
        return found

    def __len__(self):
        return len(self.operations)

    def __eq__(self, other):
        return isinstance(other, Flow) and self.operations == other.operations and self.wants == other.wants


def check_operations(values):
    """Raise BadValues for what is no row of values."""
    if not is_row(values) or not 1 <= len(values) <= MOST_OPERATIONS:
        raise BadValues(-1)
    for at, operation in enumerate(values):
        if not is_operation(operation, at) or operation in values[:at]:
            raise BadValues(at)


def is_operation(thing, many):
    """Tell whether a thing is an operation on some of so many values ahead of it."""
    word = head_word(thing)
    if word not in FORMS or len(thing) != len(FORMS[word]) + 1:
        return False
    return all([is_operand(kind, operand, many) for kind, operand in zip(FORMS[word], thing[1:])])


def is_operand(kind, thing, many):
    """Tell whether a thing is an operand of this kind where so many values stand ahead."""
    if kind == "name":
        return is_name(thing)
    if kind == "number":
        return is_set_number(thing)
    if kind == "shift":
        return is_shift(thing)
    return is_value_number(thing, many)


def is_value_number(thing, many):
    """Tell whether a thing is the number of one of so many values."""
    return is_integer(thing) and 0 <= thing < many


def check_value_number(thing, many):
    """Raise BadNumber for what is not the number of one of so many values."""
    if not is_value_number(thing, many):
        raise BadNumber(thing)


def check_wants(wants, many):
    """Raise BadWants for what is no row of numbers of some of so many values."""
    if not is_row(wants) or not 1 <= len(wants) <= MOST_WANTS:
        raise BadWants(-1)
    for at, number in enumerate(wants):
        if not is_value_number(number, many) or number in wants[:at]:
            raise BadWants(at)


def arguments_of(operation):
    """Return the list of the numbers of the values that an operation works on."""
    return [operand for kind, operand in zip(FORMS[operation[0]], operation[1:]) if kind == "value"]


def formula_of_operation(operation, made):
    """Return the formula of an operation, where made has those of its arguments."""
    if operation[0] == "input":
        return Name(operation[1])
    if operation[0] == "set":
        return Number(operation[1])
    return operated(operation, made)


def word_of_operation(operation, words, values):
    """Return the word of an operation, not yet modulo, where words has those of its arguments."""
    if operation[0] == "input":
        return values[operation[1]]
    if operation[0] == "set":
        return operation[1]
    return operated(operation, words)


def operated(operation, made):
    """Return what an operation makes of its arguments, integers or formulas; made has them by their numbers."""
    word = operation[0]
    one = made[operation[1]]
    if word == "neg":
        return -one
    if word == "shl":
        return one << operation[2]
    other = made[operation[2]]
    if word == "add":
        return one + other
    if word == "sub":
        return one - other
    return one * other


def flow_of(program):
    """Return the flow of a plain program."""
    laid = laid_plain(program)
    for name, value in laid.lets:
        if index_names(value):
            raise HasSum(name)
    # The operations are the keys, each with its number, so that each stands there once.
    found = {}
    stands = {}
    for name, value in laid.lets:
        stands[name] = number_of_formula(value, laid.width, stands, found)
    wants = []
    for name in laid.outs:
        number = number_of_formula(Name(name), laid.width, stands, found)
        if number not in wants:
            wants.append(number)
    return Flow(list(found), wants)


def number_of_formula(formula, width, stands, found):
    """Return the number of the value of a formula, and add to found what is not there yet.

    stands has the numbers of the values of the lets ahead.
    """
    things = formula.things
    if formula.kind == "number":
        return number_of_operation(("set", things[0] & ((1 << width) - 1)), found)
    if formula.kind == "name":
        if things[0] in stands:
            return stands[things[0]]
        return number_of_operation(("input", things[0]), found)
    one = number_of_formula(things[0], width, stands, found)
    word = WORDS[formula.kind]
    if word == "neg":
        return number_of_operation((word, one), found)
    if word == "shl":
        return number_of_operation((word, one, things[1]), found)
    return number_of_operation((word, one, number_of_formula(things[1], width, stands, found)), found)


def number_of_operation(operation, found):
    """Return the number of an operation, and add it to found if it is not there yet."""
    if operation not in found:
        if len(found) == MOST_OPERATIONS:
            raise TooMany()
        found[operation] = len(found)
    return found[operation]
