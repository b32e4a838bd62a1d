"""Plain programs: their degrees, their tables, and whether two of them give the same words."""

from samewords.checks import is_told_input
from samewords.errors import BadProgram, NotPlain, TooMany
from samewords.meaning import MOST_INPUTS, are_small_degrees, degrees_with, has_small_bodies
from samewords.picks import in_order, lifted
from samewords.programs import Choice, Program, check_program
from samewords.tables import table_of_name, table_of_small


def program_degrees(program):
    """Return the dict from each let's name to its dict of degrees over the inputs of the program."""
    found = degrees_of_lets(laid_plain(program))
    # Two lets may share their degrees, but the caller may change each dict by itself.
    return {name: dict(found[name]) for name in found}


def tables(program):
    """Return the dict from each input's and let's name to its table."""
    return tables_of_laid(laid_small(program))


def programs_alike(one, other):
    """Tell whether each out of two programs has the same word for all inputs of both."""
    return programs_apart(one, other) is None


def programs_apart(one, other):
    """Return the least input of both at which some out differs, or None."""
    return least_unlike(tables_of_outs(one, other), inputs_of_both(one, other))


def is_programs_apart(one, other, thing):
    """Tell whether a thing is an input of just the inputs of both at which some out differs."""
    pairs = tables_of_outs(one, other)
    if not is_told_input(thing, inputs_of_both(one, other), one.width):
        return False
    return any([pair[0].word_at(thing) != pair[1].word_at(thing) for pair in pairs])


def laid_plain(program):
    """Return the program without defs, or raise the errors of what is no plain program."""
    check_program(program)
    for at, let in enumerate(program.lets):
        if isinstance(let[1], Choice):
            raise NotPlain(at)
    return program.laid()


def laid_small(program):
    """Return the program without defs, or raise the errors of what is no small plain program."""
    laid = laid_plain(program)
    known = degrees_of_lets(laid)
    for name, value in laid.lets:
        if not are_small_degrees(known[name]) or not has_small_bodies(value, known):
            raise TooMany()
    return laid


def degrees_of_lets(laid):
    """Return the dict from the lets of a plain program without defs to their degrees."""
    known = {}
    for name, value in laid.lets:
        known[name] = degrees_with(value, known)
    return known


def tables_of_laid(laid):
    """Return the dict from the inputs and the lets of a small plain program without defs to their tables."""
    known = {name: table_of_name(laid.width, name) for name in laid.inputs}
    for name, value in laid.lets:
        known[name] = table_of_small(value, laid.width, known)
    return known


def check_pair_of_programs(one, other):
    """Raise BadProgram for what are no two programs of the same width with the same outs as a set."""
    check_program(one)
    if not isinstance(other, Program) or one.width != other.width or sorted(one.outs) != sorted(other.outs):
        raise BadProgram(other)


def tables_of_outs(one, other):
    """Return the list of the pairs of tables that two programs have for each out."""
    check_pair_of_programs(one, other)
    found = tables(one)
    others = tables(other)
    if len(inputs_of_both(one, other)) > MOST_INPUTS:
        raise TooMany()
    return [(found[name], others[name]) for name in one.outs]


def inputs_of_both(one, other):
    """Return the ascending list of the inputs of two programs."""
    return sorted(set(one.inputs + other.inputs))


def have_same_shape(one, other):
    """Tell whether two programs have the same width, and the same inputs and outs in the same order."""
    return one.width == other.width and one.inputs == other.inputs and one.outs == other.outs


def out_tables(program):
    """Return the list of the tables of the outs of a program, or raise the errors of tables."""
    found = tables(program)
    return [found[name] for name in program.outs]


def least_unlike(pairs, names):
    """Return the least input of these names at which the two tables of some pair differ, or None."""
    picks = [pick for pair in pairs for pick in unlike_picks(pair[0], pair[1], names)]
    if not picks:
        return None
    return dict(zip(names, in_order(picks)[0]))


def unlike_picks(one, other, names):
    """Return the picks, for the names, for which two tables have unlike words.

    The difference is not made as a table, as it may have too many rows for one.
    """
    words = {lifted(one.inputs, pick, names): word for pick, word in one.rows()}
    others = {lifted(other.inputs, pick, names): word for pick, word in other.rows()}
    found = [pick for pick in words if words[pick] != others.get(pick)]
    return found + [pick for pick in others if pick not in words]
