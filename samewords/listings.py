"""Programs as text: a row for the width, and one for each input, def, let and out."""

from samewords.checks import MOST_WIDTH, is_name
from samewords.errors import BadText, SameError
from samewords.programs import Choice, Program, check_program
from samewords.texts import read_formula, write_formula
from samewords.wrongs import MOST_PARAMETERS

WORDS = ("width", "in", "def", "let", "out")


def write_program(program):
    """Return the text of a program."""
    check_program(program)
    rows = [f"width {program.width}"]
    rows.extend([f"in {name}" for name in program.inputs])
    for name, parameters, body in program.defs:
        rows.append(f"def {name}(" + ", ".join(parameters) + f") = {write_formula(body)}")
    rows.extend([f"let {name} = {write_value(value)}" for name, value in program.lets])
    rows.extend([f"out {name}" for name in program.outs])
    return "\n".join(rows)


def write_value(value):
    """Return the text of the value of a let."""
    if not isinstance(value, Choice):
        return write_formula(value)
    question = f"if {write_formula(value.left)} = {write_formula(value.right)}"
    return f"{question} then {write_formula(value.same)} else {write_formula(value.other)}"


def read_program(text):
    """Return the program that a text writes."""
    if not isinstance(text, str):
        raise BadText(text)
    found = {word: [] for word in WORDS}
    rows = text.split("\n")
    last = ""
    for number, row in enumerate(rows, start=1):
        word, _, rest = row.partition(" ")
        item = read_item(word, rest)
        if item is None or not may_follow(word, last):
            raise BadText(number)
        found[word].append(item)
        last = word
    if not found["out"]:
        raise BadText(len(rows) + 1)
    return Program(found["width"][0], found["in"], found["def"], found["let"], found["out"])


def may_follow(word, last):
    """Tell whether a row with this word may stand behind one with the last word, "" for the first row."""
    if last == "" or word == "width":
        return last == "" and word == "width"
    return WORDS.index(last) <= WORDS.index(word)


def read_item(word, rest):
    """Return what stands behind the word of a row, or None if it is not so written."""
    if word == "width":
        widths = {str(width): width for width in range(1, MOST_WIDTH + 1)}
        return widths.get(rest)
    if word in ("in", "out"):
        return rest if is_name(rest) else None
    if word == "def":
        return read_def(rest)
    if word == "let":
        return read_let(rest)
    return None


def read_def(rest):
    """Return the tuple of name, parameters and body of a def, or None if it is not so written."""
    head, _, text = rest.partition(" = ")
    name, _, row = head.partition("(")
    body = formula_or_none(text)
    if not is_name(name) or not row.endswith(")") or body is None:
        return None
    parameters = row[:-1].split(", ")
    if len(parameters) > MOST_PARAMETERS or not all([is_name(parameter) for parameter in parameters]):
        return None
    return (name, tuple(parameters), body)


def read_let(rest):
    """Return the tuple of name and value of a let, or None if it is not so written."""
    name, _, text = rest.partition(" = ")
    # The word if is no name, so that no formula begins with it.
    value = read_choice(text[3:]) if text.startswith("if ") else formula_or_none(text)
    if not is_name(name) or value is None:
        return None
    return (name, value)


def read_choice(text):
    """Return the choice written behind its if, or None if it is not so written."""
    left, _, behind = text.partition(" = ")
    right, _, results = behind.partition(" then ")
    same, _, other = results.partition(" else ")
    found = [formula_or_none(one) for one in (left, right, same, other)]
    if any([one is None for one in found]):
        return None
    return Choice(*found)


def formula_or_none(text):
    """Return the formula that a text writes, or None if it is not so written or cannot be made."""
    try:
        return read_formula(text)
    except SameError:
        return None
