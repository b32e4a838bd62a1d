"""Formulas as text: writing them, and reading just what is so written."""

from samewords.checks import LETTERS, MOST_LETTERS, MOST_SHIFT, is_name
from samewords.errors import BadText
from samewords.formulas import MOST_THINGS, Call, Name, Number, Sum, check_formula

SIGNS = {"plus": "+", "minus": "-", "times": "*"}
KINDS = {"+": "plus", "-": "minus", "*": "times", "<": "shift"}
DIGITS = "0123456789"
MOST_DIGITS = 30


def write_formula(formula):
    """Return the text of a formula."""
    check_formula(formula)
    return written(formula)


def read_formula(text):
    """Return the formula that a text writes."""
    if not isinstance(text, str):
        raise BadText(text)
    tree, end = tree_at(text, 0)
    if end < len(text):
        raise BadText(end)
    return made_of(tree)


def written(formula):
    """Return the text of what is known to be a formula."""
    things = formula.things
    if formula.kind in ("number", "name"):
        return str(things[0])
    if formula.kind == "negative":
        return f"(- {written(things[0])})"
    if formula.kind == "shift":
        return f"({written(things[0])} << {things[1]})"
    if formula.kind == "sum":
        return f"sum({things[0]}, {written(things[1])}, {written(things[2])})"
    if formula.kind == "call":
        return things[0] + "(" + ", ".join([written(one) for one in things[1]]) + ")"
    return f"({written(things[0])} {SIGNS[formula.kind]} {written(things[1])})"


# A text is read into a tree first, a tuple of a kind and of what stands in it: that it is not
# so written goes ahead of all errors of making the formulas. Each function that reads gets the
# index where its part begins, and returns what it read and the index behind that.


def tree_at(text, at):
    """Read a formula."""
    letter = text[at:at + 1]
    if letter == "(":
        return operation_at(text, at + 1)
    if letter != "" and letter in DIGITS:
        return number_at(text, at)
    word, end = letters_at(text, at)
    opened = text[end:end + 1] == "("
    if opened and word == "sum":
        return sum_at(text, end + 1)
    if opened and is_name(word):
        return call_at(text, end + 1, word)
    return name_at(text, at)


def operation_at(text, at):
    """Read an operation behind its parenthesis."""
    if text[at:at + 1] == "-":
        one, end = tree_at(text, after(text, at, "- "))
        return ("negative", one), after(text, end, ")")
    one, end = tree_at(text, at)
    end = after(text, end, " ")
    sign = text[end:end + 1]
    if sign not in KINDS:
        raise BadText(end)
    if sign == "<":
        other, end = shift_at(text, after(text, end, "<< "))
    else:
        other, end = tree_at(text, after(text, end + 1, " "))
    return (KINDS[sign], one, other), after(text, end, ")")


def sum_at(text, at):
    """Read a sum behind its parenthesis."""
    index, end = name_at(text, at)
    below, end = bound_at(text, after(text, end, ", "))
    body, end = tree_at(text, after(text, end, ", "))
    return ("sum", index[1], below, body), after(text, end, ")")


def call_at(text, at, name):
    """Read a call of this name behind its parenthesis."""
    thing, end = tree_at(text, at)
    things = [thing]
    while len(things) < MOST_THINGS and text[end:end + 1] == ",":
        thing, end = tree_at(text, after(text, end, ", "))
        things.append(thing)
    return ("call", name, things), after(text, end, ")")


def bound_at(text, at):
    """Read what may bound a sum."""
    if text[at:at + 1] != "" and text[at] in DIGITS:
        return number_at(text, at)
    return name_at(text, at)


def number_at(text, at):
    """Read a number."""
    end = at + 1
    # Behind a 0 ahead no further digit may stand.
    most = end if text[at] == "0" else min(at + MOST_DIGITS, len(text))
    while end < most and text[end] in DIGITS:
        end = end + 1
    return ("number", int(text[at:end])), end


def shift_at(text, at):
    """Read a number to shift by."""
    shifts = [str(number) for number in range(MOST_SHIFT + 1)]
    end = at
    while end < len(text) and text[at:end + 1] in shifts:
        end = end + 1
    if end == at:
        raise BadText(at)
    return int(text[at:end]), end


def name_at(text, at):
    """Read a name."""
    word, end = letters_at(text, at)
    if not is_name(word):
        # A word that is no name may be the beginning of one, so that it stops behind the word.
        raise BadText(end)
    return ("name", word), end


def letters_at(text, at):
    """Read as many letters as a name may have, perhaps none."""
    end = at
    while end < min(at + MOST_LETTERS, len(text)) and text[end] in LETTERS:
        end = end + 1
    return text[at:end], end


def after(text, at, signs):
    """Return the index behind the signs, which have to stand at this one."""
    for place, sign in enumerate(signs, start=at):
        if text[place:place + 1] != sign:
            raise BadText(place)
    return at + len(signs)


def made_of(tree):
    """Return the formula of a tree; its parts are made in the order in which they end in the text."""
    kind = tree[0]
    if kind == "number":
        return Number(tree[1])
    if kind == "name":
        return Name(tree[1])
    if kind == "sum":
        _, index, below, body = tree
        return Sum(index, made_of(below), made_of(body))
    if kind == "call":
        return Call(tree[1], [made_of(one) for one in tree[2]])
    one = made_of(tree[1])
    if kind == "negative":
        return -one
    if kind == "shift":
        return one << tree[2]
    other = made_of(tree[2])
    if kind == "plus":
        return one + other
    if kind == "minus":
        return one - other
    return one * other
