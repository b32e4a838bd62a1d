"""Passes, which make other plain programs of plain ones, and papers that show that programs are alike."""

from samewords.errors import BadPass, BadProgram, Unlike
from samewords.leaving import with_constants, with_equals, with_lets, with_names, without_idle
from samewords.plain import have_same_shape, laid_small, least_unlike, out_tables, tables_of_laid
from samewords.programs import Program, check_program
from samewords.right import is_paper_of_outs, paper_of_outs

PASSES = ("calls", "constants", "equals", "names", "unused", "idle")


def passed(program, name):
    """Return the plain program that a pass makes of a plain program."""
    laid = laid_small(program)
    if name not in PASSES:
        raise BadPass(name)
    if name == "constants":
        return with_constants(laid, tables_of_laid(laid))
    if name == "equals":
        return with_equals(laid, tables_of_laid(laid))
    if name == "names":
        return with_names(laid)
    if name == "unused":
        return without_unused(laid)
    if name == "idle":
        return without_idle(laid, tables_of_laid(laid))
    return laid


def without_unused(laid):
    """Return the program without the lets that are no outs and that no later let still needs."""
    needed = {name: True for name in laid.outs}
    left = []
    for name, value in reversed(laid.lets):
        if name in needed:
            left.append((name, value))
            for one in value.input_names():
                needed[one] = True
    return with_lets(laid, list(reversed(left)))


def program_paper(one, other):
    """Return the paper with the least ends that shows that two plain programs are alike."""
    found, others = out_tables_of_pair(one, other)
    values = least_unlike(list(zip(found, others)), sorted(one.inputs))
    if values is not None:
        raise Unlike(values)
    return paper_of_outs(one, found)


def is_program_paper(one, other, thing):
    """Tell whether a thing is a paper that shows that two plain programs are alike."""
    found, others = out_tables_of_pair(one, other)
    return found == others and is_paper_of_outs(one, found, thing)


def out_tables_of_pair(one, other):
    """Return the tables of the outs of two plain programs with the same width, inputs and outs."""
    check_program(one)
    if not isinstance(other, Program) or not have_same_shape(one, other):
        raise BadProgram(other)
    return out_tables(one), out_tables(other)
