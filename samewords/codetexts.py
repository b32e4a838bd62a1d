"""Texts of code: a row for each instruction, written and read."""

from samewords.checks import LETTERS
from samewords.codes import FORMS, check_code
from samewords.errors import BadText
from samewords.texts import DIGITS

MOST_READ = 21


def write_code(code):
    """Return the text of a code."""
    check_code(code)
    return "\n".join([" ".join([str(item) for item in instruction]) for instruction in code])


def read_code(text):
    """Return the code that a text writes."""
    if not isinstance(text, str):
        raise BadText(text)
    instructions = []
    for number, row in enumerate(text.split("\n"), start=1):
        instruction = read_row(row)
        if instruction is None:
            raise BadText(number)
        instructions.append(instruction)
    code = tuple(instructions)
    check_code(code)
    return code


def read_row(row):
    """Return the instruction of a row, whose numbers and names may be none of a code, or None."""
    word, *items = row.split(" ")
    if word not in FORMS or len(items) != len(FORMS[word]):
        return None
    things = [read_item(kind, item) for kind, item in zip(FORMS[word], items)]
    if any([thing is None for thing in things]):
        return None
    return (word, *things)


def read_item(kind, item):
    """Return the letters or the number that an item of this kind is, or None if it is not so written."""
    signs = LETTERS if kind == "name" else DIGITS
    if item == "" or not all([sign in signs for sign in item]):
        return None
    if kind == "name":
        return item
    if item[0] == "0" and item != "0":
        return None
    # A longer number is out of range wherever it stands, as its first digits alone are, too.
    return int(item[:MOST_READ])
