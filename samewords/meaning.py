"""What a formula means: its word, its turns and its degrees by the text."""

from samewords.checks import check_values, check_width
from samewords.errors import TooLong
from samewords.formulas import Formula, check_callless, has_call, index_names, inner_formulas

MOST_TURNS = 20000
MOST_INPUTS = 4
MOST_DEGREE = 12
MOST_ROWS = 400


def told(formula, width, values):
    """Return the word of the formula where values gives a word for each input."""
    turns(formula, width, values)
    return word_of(formula, width, values)


def turns(formula, width, values):
    """Return the number of turns that the sums of the formula do there."""
    check_callless(formula)
    check_width(width)
    check_values(formula.input_names(), width, values)
    return turns_of(formula, width, values)


def word_of(formula, width, values):
    """Return the word where values is known to be right and the turns to be few."""
    return words_at(formula, width, one_case(formula, values), 1)[0]


def turns_of(formula, width, values):
    """Return the number of turns where values is known to be right."""
    found = turns_at(formula, width, one_case(formula, values), 1)
    if found > MOST_TURNS:
        raise TooLong()
    return found


def one_case(formula, values):
    """Return the cases for words_at that hold one input alone."""
    return {name: [values[name]] for name in formula.input_names()}


# All turns of a sum are worked out side by side: cases gives for each input the list
# of its words in so many cases, and each part of the formula has a list of words, too.


def words_at(formula, width, cases, many):
    """Return the list of the words of the formula in so many cases."""
    mask = (1 << width) - 1
    if formula.kind == "number":
        return [formula.things[0] & mask] * many
    if formula.kind == "name":
        return cases[formula.things[0]]
    if formula.kind == "sum":
        return sums_at(formula, width, cases, many)
    words = words_at(formula.things[0], width, cases, many)
    if formula.kind == "negative":
        return [-word & mask for word in words]
    if formula.kind == "shift":
        return [(word << formula.things[1]) & mask for word in words]
    others = words_at(formula.things[1], width, cases, many)
    if formula.kind == "plus":
        return [(word + other) & mask for word, other in zip(words, others)]
    if formula.kind == "minus":
        return [(word - other) & mask for word, other in zip(words, others)]
    return [(word * other) & mask for word, other in zip(words, others)]


def sums_at(formula, width, cases, many):
    """Return the list of the words of a sum in so many cases."""
    bounds = words_at(formula.things[1], width, cases, many)
    body = formula.things[2]
    words = words_at(body, width, cases_of_turns(formula, cases, bounds), sum(bounds))
    found = []
    at = 0
    for bound in bounds:
        found.append(sum(words[at:at + bound]) & ((1 << width) - 1))
        at = at + bound
    return found


def cases_of_turns(formula, cases, bounds):
    """Return the cases that the turns of a sum are, where each case has as many turns as its bound."""
    index, _, body = formula.things
    found = {}
    for name in body.input_names():
        if name == index:
            found[name] = [turn for bound in bounds for turn in range(bound)]
        else:
            found[name] = [word for word, bound in zip(cases[name], bounds) for _ in range(bound)]
    return found


def turns_at(formula, width, cases, many):
    """Return the number of turns in all of so many cases, or raise TooLong."""
    if formula.kind != "sum":
        return sum([turns_at(one, width, cases, many) for one in inner_formulas(formula)])
    bounds = words_at(formula.things[1], width, cases, many)
    here = sum(bounds)
    if here > MOST_TURNS:
        raise TooLong()
    body = formula.things[2]
    if not index_names(body):
        return here
    return here + turns_at(body, width, cases_of_turns(formula, cases, bounds), here)


def degrees(formula):
    """Return the dict from each input to its degree by the text."""
    check_callless(formula)
    return text_degrees(formula)


def text_degrees(formula):
    """Return the degrees of a formula without calls, by ascending names."""
    return degrees_with(formula, {})


def degrees_with(formula, known):
    """Return the degrees of a formula, where known has the degrees of what some names stand for."""
    if formula.kind == "number":
        return {}
    if formula.kind == "name":
        name = formula.things[0]
        return known.get(name, {name: 1})
    if formula.kind == "sum":
        return sum_degrees(formula, known)
    inner = [degrees_with(one, known) for one in inner_formulas(formula)]
    if len(inner) == 1:
        return inner[0]
    if formula.kind == "times":
        return {name: inner[0].get(name, 0) + inner[1].get(name, 0) for name in names_of_both(*inner)}
    return greater_degrees(*inner)


def sum_degrees(formula, known):
    """Return the degrees of a sum; none of the known names is an index or a bound."""
    index, below, body = formula.things
    inside = degrees_with(body, known)
    found = {name: inside[name] for name in inside if name != index}
    if below.kind == "name":
        bound = below.things[0]
        found[bound] = found.get(bound, 0) + inside.get(index, 0) + 1
    return {name: found[name] for name in sorted(found)}


def names_of_both(one, other):
    """Return the ascending list of the names that are keys of one dict or the other."""
    return sorted(set(list(one) + list(other)))


def greater_degrees(one, other):
    """Return the degrees of a sum or a difference of formulas with these degrees."""
    return {name: max(one.get(name, 0), other.get(name, 0)) for name in names_of_both(one, other)}


def is_small(thing):
    """Tell whether a thing is a small formula without a call."""
    if not isinstance(thing, Formula) or has_call(thing):
        return False
    return are_small_degrees(text_degrees(thing)) and has_small_bodies(thing, {})


def is_small_pair(one, other):
    """Tell whether the difference of two formulas without calls would be small."""
    together = greater_degrees(text_degrees(one), text_degrees(other))
    return are_small_degrees(together) and has_small_bodies(one, {}) and has_small_bodies(other, {})


def are_small_degrees(found):
    """Tell whether a formula may have these degrees and be small."""
    if len(found) > MOST_INPUTS:
        return False
    rows = 1
    for degree in found.values():
        if degree > MOST_DEGREE:
            return False
        rows = rows * (degree + 1)
    return rows <= MOST_ROWS


def has_small_bodies(formula, known):
    """Tell whether the bodies of all sums in it are small, with known as in degrees_with."""
    if formula.kind == "sum" and not are_small_degrees(degrees_with(formula.things[2], known)):
        return False
    return all([has_small_bodies(one, known) for one in inner_formulas(formula)])
