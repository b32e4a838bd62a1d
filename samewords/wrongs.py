"""What is wrong with a program: the first thing that is not as programs have it."""

from samewords.checks import is_name, is_row
from samewords.formulas import Formula, inner_formulas

MOST_INPUTS = 4
MOST_DEFS = 20
MOST_PARAMETERS = 4
MOST_LETS = 60
MOST_OUTS = 8


class Place:
    """Where a formula of a program stands: what it may name there."""

    def __init__(self, free, bounds, flags, barred):
        """free may be its inputs, bounds those that bound sums, barred are no indexes.

        flags are those of parameter_flags, for each def that may be called.
        """
        self.free = free
        self.bounds = bounds
        self.flags = flags
        self.barred = barred


def first_wrong(inputs, defs, lets, outs):
    """Return (word, at) for the first wrong thing of a program, or None.

    lets has a tuple (name, formulas) for each let, None for a thing that is no tuple of two things,
    and is None itself if the row is none; formulas are those of its value, none if it is wrong.
    """
    at = wrong_name(inputs)
    if at is not None:
        return ("in", at)
    barred = list(inputs) + names_of_defs(defs) + names_of_lets(lets)
    at = wrong_def(inputs, defs, barred)
    if at is not None:
        return ("def", at)
    at = wrong_let(inputs, defs, lets, barred)
    if at is not None:
        return ("let", at)
    at = wrong_out(outs, list(inputs) + [name for name, _ in lets])
    if at is not None:
        return ("out", at)
    return None


def wrong_name(inputs):
    """Return the index of the first wrong input, -1 for the row, or None."""
    if not is_row(inputs) or len(inputs) > MOST_INPUTS:
        return -1
    for at, name in enumerate(inputs):
        if not is_name(name) or name in inputs[:at]:
            return at
    return None


def names_of_defs(defs):
    """Return the names of the defs and of their parameters, as far as these are readable."""
    found = []
    for item in readable_items(defs, 3):
        found.append(item[0])
        if isinstance(item[1], tuple):
            found.extend(item[1])
    return [name for name in found if is_name(name)]


def names_of_lets(lets):
    """Return the names of the lets, as far as these are readable."""
    return [item[0] for item in readable_items(lets, 2) if is_name(item[0])]


def readable_items(row, many):
    """Return the list of the tuples of so many things in a row, empty if it is none."""
    if not is_row(row):
        return []
    return [item for item in row if isinstance(item, tuple) and len(item) == many]


def wrong_def(inputs, defs, barred):
    """Return the index of the first wrong def, -1 for the row, or None."""
    if not is_row(defs) or len(defs) > MOST_DEFS:
        return -1
    flags = {}
    for at, item in enumerate(defs):
        if not isinstance(item, tuple) or len(item) != 3:
            return at
        name, parameters, body = item
        if not is_name(name) or name in inputs or name in flags:
            return at
        if not are_parameters(parameters) or not isinstance(body, Formula):
            return at
        if not fits(body, Place(parameters, parameters, flags, barred)):
            return at
        flags[name] = parameter_flags(parameters, body, flags)
    return None


def are_parameters(thing):
    """Tell whether a thing is a tuple of 1 to 4 names, none twice."""
    if not isinstance(thing, tuple) or not 1 <= len(thing) <= MOST_PARAMETERS:
        return False
    return all([is_name(name) for name in thing]) and len(set(thing)) == len(thing)


def parameter_flags(parameters, body, flags):
    """Return for each parameter of a def whether it bounds a sum, there or in a def called there."""
    bounding = body.bound_names() + handed_bounds(body, flags)
    return tuple([name in bounding for name in parameters])


def handed_bounds(formula, flags):
    """Return the names that are handed, in calls, to parameters that bound a sum."""
    found = [name for one in inner_formulas(formula) for name in handed_bounds(one, flags)]
    if formula.kind != "call":
        return found
    name, things = formula.things
    handed = [thing for thing, flag in zip(things, flags[name]) if flag]
    return found + [thing.things[0] for thing in handed if thing.kind == "name"]


def wrong_let(inputs, defs, lets, barred):
    """Return the index of the first wrong let, -1 for the row, or None."""
    if lets is None or len(lets) > MOST_LETS:
        return -1
    flags = {}
    for name, parameters, body in defs:
        flags[name] = parameter_flags(parameters, body, flags)
    names = list(inputs)
    for at, item in enumerate(lets):
        if item is None:
            return at
        name, formulas = item
        if not is_name(name) or name in names or name in flags or not formulas:
            return at
        if not all([fits(formula, Place(names, inputs, flags, barred)) for formula in formulas]):
            return at
        names.append(name)
    return None


def wrong_out(outs, names):
    """Return the index of the first wrong out, -1 for the row, or None."""
    if not is_row(outs) or not 1 <= len(outs) <= MOST_OUTS:
        return -1
    for at, name in enumerate(outs):
        if not is_name(name) or name not in names or name in outs[:at]:
            return at
    return None


def fits(formula, place):
    """Tell whether a formula may stand at its place."""
    if not all([name in place.free for name in formula.input_names()]):
        return False
    return fits_within(formula, place, ())


def fits_within(formula, place, around):
    """Tell whether the sums and the calls of a formula may stand within sums with these indexes."""
    inside = around
    if formula.kind == "sum":
        index, below, _ = formula.things
        if index in place.barred or not may_bound(below, place, around):
            return False
        inside = around + (index,)
    if formula.kind == "call" and not call_fits(formula, place, around):
        return False
    return all([fits_within(one, place, inside) for one in inner_formulas(formula)])


def call_fits(formula, place, around):
    """Tell whether a call has a def ahead of it, and things that its parameters may be."""
    name, things = formula.things
    if name not in place.flags or len(things) != len(place.flags[name]):
        return False
    return all([may_bound(thing, place, around) for thing, flag in zip(things, place.flags[name]) if flag])


def may_bound(thing, place, around):
    """Tell whether a formula may bound a sum within sums with these indexes."""
    if thing.kind == "name":
        return thing.things[0] in place.bounds or thing.things[0] in around
    return thing.kind == "number"
