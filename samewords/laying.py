"""Laying calls in: a formula with the bodies of defs in the place of their calls."""

from samewords.checks import LETTERS, is_name
from samewords.formulas import Sum, index_names, inner_formulas, put_in, with_inner


def laid_bodies(defs, taken):
    """Return the dict from the names of defs to tuples of parameters and body, all calls laid in."""
    bodies = {}
    for name, parameters, body in defs:
        bodies[name] = (parameters, laid_in(body, bodies, (), taken))
    return bodies


def laid_in(formula, bodies, around, taken):
    """Return the formula with its calls laid in, the innermost first.

    around has the indexes of the sums around it, taken the names that no new index may have.
    """
    if formula.kind == "sum":
        index, below, body = formula.things
        return Sum(index, below, laid_in(body, bodies, around + (index,), taken))
    inner = [laid_in(one, bodies, around, taken) for one in inner_formulas(formula)]
    if formula.kind != "call":
        return with_inner(formula, inner)
    parameters, body = bodies[formula.things[0]]
    renamed = new_indexes(body, inner, around, taken)
    return put_in(body, dict(zip(parameters, inner)), renamed)


def new_indexes(body, things, around, taken):
    """Return the dict from the indexes of a body that clash, with things or sums around, to new ones."""
    clashing = list(around)
    for thing in things:
        clashing.extend(thing.input_names() + index_names(thing))
    inside = sorted(set(index_names(body)))
    barred = taken + clashing + inside
    renamed = {}
    for index in inside:
        if index in clashing:
            renamed[index] = new_name(barred)
            barred.append(renamed[index])
    return renamed


def new_name(barred):
    """Return the first name, by its length and then by its letters, that is not barred."""
    ends = [""]
    while True:
        ends = [end + letter for end in ends for letter in LETTERS]
        for name in ends:
            if is_name(name) and name not in barred:
                return name
