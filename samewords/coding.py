"""Making code: for the orders of flows, and for plain programs."""

from samewords.cells import REGISTERS
from samewords.checks import is_integer
from samewords.codes import MOST_INSTRUCTIONS, MOST_LOOPS
from samewords.errors import BadCount, TooMany
from samewords.flows import FORMS, WORDS, arguments_of
from samewords.formulas import inner_formulas
from samewords.orders import check_order, laying
from samewords.passes import without_unused
from samewords.plain import laid_small

# Beside the counters of open loops two registers are worked with.
WORKING = 2


class Writer:
    """The instructions that are written so far, and the slots that hold the words of lets."""

    def __init__(self, width):
        self.width = width
        self.instructions = []
        self.homes = {}

    def write(self, *instruction):
        """Write one more instruction."""
        self.instructions.append(instruction)


def code_of_order(flow, order, many):
    """Return a code that does the values of a flow in an order, with registers below many."""
    check_order(flow, order)
    check_registers(many, WORKING)
    places = laying(flow, order, many)
    if places is None:
        return code_by_slots(flow, order)
    done = [instruction_of(flow.operations[number], places[number], places) for number in order]
    told = [("out", at, places[number]) for at, number in enumerate(flow.wants)]
    return tuple(done + told)


def code_by_slots(flow, order):
    """Return a code that keeps each value in a slot of its own, and works with two registers."""
    code = []
    for number in order:
        operation = flow.operations[number]
        places = {}
        for argument in arguments_of(operation):
            if argument not in places:
                places[argument] = len(places)
                code.append(("load", places[argument], argument))
        code.append(instruction_of(operation, 0, places))
        code.append(("store", number, 0))
    for at, number in enumerate(flow.wants):
        code.extend([("load", 0, number), ("out", at, 0)])
    return tuple(code)


def instruction_of(operation, place, places):
    """Return the instruction that does an operation into a register, its arguments being in their places."""
    word = operation[0]
    operands = [places[operand] if kind == "value" else operand for kind, operand in zip(FORMS[word], operation[1:])]
    return (word, place, *operands)


def check_registers(many, least):
    """Raise BadCount for what is no count of registers of the machine, or is below the least one."""
    if not is_integer(many) or not least <= many <= REGISTERS:
        raise BadCount(many)


def code_of(program, many):
    """Return a right code for a plain program, with registers below many."""
    laid = laid_small(program)
    deep = max([sums_deep(value) for _, value in laid.lets], default=0)
    check_registers(many, deep + WORKING)
    if deep > MOST_LOOPS:
        raise TooMany()
    writer = Writer(laid.width)
    used = without_unused(laid)
    # Behind the slots of the lets stand those that a formula needs while it is worked out.
    for at, (name, value) in enumerate(used.lets):
        place = put_formula(writer, value, {}, len(used.lets))
        writer.write("store", at, place)
        writer.homes[name] = at
    for at, name in enumerate(used.outs):
        place = put_name(writer, name, {}, 0)
        writer.write("out", at, place)
    if len(writer.instructions) > MOST_INSTRUCTIONS:
        raise TooMany()
    return tuple(writer.instructions)


def sums_deep(formula):
    """Return how deep sums stand in one another in a formula."""
    deep = max([sums_deep(one) for one in inner_formulas(formula)], default=0)
    return deep + 1 if formula.kind == "sum" else deep


def put_formula(writer, formula, counters, free):
    """Write what works a formula out, and return the register that its word is in.

    counters has the registers of the indexes around it; the slots from free on may be written.
    """
    if is_leaf(formula):
        return put_leaf(writer, formula, counters, 0)
    if formula.kind == "sum":
        put_sum(writer, formula, counters, free)
    elif formula.kind == "negative":
        place = put_formula(writer, formula.things[0], counters, free)
        writer.write("neg", 0, place)
    elif formula.kind == "shift":
        place = put_formula(writer, formula.things[0], counters, free)
        writer.write("shl", 0, place, formula.things[1])
    else:
        one, other = put_two(writer, formula, counters, free)
        writer.write(WORDS[formula.kind], 0, one, other)
    return 0


def put_two(writer, formula, counters, free):
    """Write what works out both formulas that an operation is made of, and return their registers."""
    one, other = formula.things
    if is_leaf(other):
        place = put_formula(writer, one, counters, free)
        return place, put_leaf(writer, other, counters, 1)
    if is_leaf(one):
        place = put_formula(writer, other, counters, free)
        return put_leaf(writer, one, counters, 1), place
    place = put_formula(writer, one, counters, free)
    writer.write("store", free, place)
    place = put_formula(writer, other, counters, free + 1)
    writer.write("load", 1, free)
    return 1, place


def put_sum(writer, formula, counters, free):
    """Write a loop that adds a sum up in the first free slot, and brings it into register 0."""
    index, below, body = formula.things
    counter = WORKING + len(counters)
    writer.write("set", 0, 0)
    writer.write("store", free, 0)
    turns = put_leaf(writer, below, counters, counter)
    writer.write("loop", counter, turns)
    # All that the body writes is lost behind it, but for the slot that is added to.
    place = put_formula(writer, body, {**counters, index: counter}, free + 1)
    writer.write("load", 1, free)
    writer.write("add", 0, place, 1)
    writer.write("store", free, 0)
    writer.write("again")
    writer.write("load", 0, free)


def is_leaf(formula):
    """Tell whether a formula is a name or a number."""
    return formula.kind in ("name", "number")


def put_leaf(writer, formula, counters, spare):
    """Write what brings a name or a number into the spare register, and return the register that has it then."""
    if formula.kind == "name":
        return put_name(writer, formula.things[0], counters, spare)
    writer.write("set", spare, formula.things[0] & ((1 << writer.width) - 1))
    return spare


def put_name(writer, name, counters, spare):
    """Do as put_leaf does for an input, a let or an index; an index has a register of its own."""
    if name in counters:
        return counters[name]
    if name in writer.homes:
        writer.write("load", spare, writer.homes[name])
    else:
        writer.write("input", spare, name)
    return spare
