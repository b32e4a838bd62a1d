"""Codes: rows of instructions of the machine, and what is wrong with what is none."""

from samewords.checks import head_word, is_integer, is_name, is_set_number, is_shift
from samewords.errors import BadCode, BadPlace

MOST_INSTRUCTIONS = 2000
MOST_LOOPS = 3
FORMS = {"input": ("written", "name"), "set": ("written", "number"), "copy": ("written", "read"),
         "add": ("written", "read", "read"), "sub": ("written", "read", "read"), "mul": ("written", "read", "read"),
         "neg": ("written", "read"), "shl": ("written", "read", "shift"), "store": ("slot", "read"),
         "load": ("written", "slot"), "out": ("output", "read"), "loop": ("counter", "read"), "again": ()}
# Below what number those things stand that are neither names nor numbers to set or to shift by.
ENDS = {"written": 16, "read": 16, "counter": 16, "slot": 256, "output": 8}


def is_code(thing):
    """Tell whether a thing is a code."""
    return first_fault(thing) is None


def code_inputs(code):
    """Return the ascending list of the names of the inputs of a code."""
    check_code(code)
    return names_in(code)


def code_outs(code):
    """Return the ascending list of the output numbers of a code."""
    check_code(code)
    return sorted([instruction[1] for instruction in code if instruction[0] == "out"])


def names_in(instructions):
    """Return the ascending list of the names in the input instructions of a code, or of a part of one."""
    return sorted(set([instruction[2] for instruction in instructions if instruction[0] == "input"]))


def registers_read(instruction):
    """Return the list of the registers that an instruction reads, from left to right."""
    return [operand for kind, operand in zip(FORMS[instruction[0]], instruction[1:]) if kind == "read"]


def loop_ends(code):
    """Return the dict from the indexes of the loops of a code to those of their agains."""
    waiting = []
    ends = {}
    for at, instruction in enumerate(code):
        if instruction[0] == "loop":
            waiting.append(at)
        elif instruction[0] == "again":
            ends[waiting.pop()] = at
    return ends


def check_place(code, thing):
    """Raise BadPlace for what is no index of a code, or its end, that stands outside all loops."""
    check_index(code, thing)
    if any([begin < thing <= end for begin, end in loop_ends(code).items()]):
        raise BadPlace(thing)


def check_index(code, thing):
    """Raise BadPlace for what is neither the index of an instruction of a code nor its end."""
    if not is_integer(thing) or not 0 <= thing <= len(code):
        raise BadPlace(thing)


def check_code(thing):
    """Raise BadCode for what is no code."""
    at = first_fault(thing)
    if at is not None:
        raise BadCode(at)


def first_fault(thing):
    """Return the index of the first wrong instruction, -1 for what is wrong as a whole, None for a code."""
    if not isinstance(thing, tuple) or not 1 <= len(thing) <= MOST_INSTRUCTIONS:
        return -1
    counters = []
    told = []
    for at, instruction in enumerate(thing):
        if not is_instruction(instruction) or breaks_rule(instruction, counters, told):
            return at
        if instruction[0] == "loop":
            counters.append(instruction[1])
        elif instruction[0] == "again":
            counters.pop()
        elif instruction[0] == "out":
            told.append(instruction[1])
    return -1 if counters else None


def is_instruction(thing):
    """Tell whether a thing is an instruction, wherever it stands."""
    word = head_word(thing)
    if word not in FORMS or len(thing) != len(FORMS[word]) + 1:
        return False
    return all([is_operand(kind, operand) for kind, operand in zip(FORMS[word], thing[1:])])


def is_operand(kind, thing):
    """Tell whether a thing is an operand of this kind."""
    if kind == "name":
        return is_name(thing)
    if kind == "number":
        return is_set_number(thing)
    if kind == "shift":
        return is_shift(thing)
    return is_integer(thing) and 0 <= thing < ENDS[kind]


def breaks_rule(instruction, counters, told):
    """Tell whether an instruction may not stand within loops with these counters, behind these outputs."""
    word = instruction[0]
    if word == "again":
        return not counters
    if word == "loop":
        return len(counters) == MOST_LOOPS or instruction[1] in counters
    if word == "out":
        return bool(counters) or instruction[1] in told
    return FORMS[word][0] == "written" and instruction[1] in counters
