"""Rests: what codes tell from a place on, whatever the registers and the slots hold there."""

from samewords.cells import cell_names
from samewords.checks import check_width
from samewords.codes import check_code, check_place, names_in
from samewords.errors import BadName, UnlikeRest
from samewords.meaning import names_of_both
from samewords.plain import least_unlike
from samewords.reading import read_rest


def rests_alike(code, at, other, place, width):
    """Tell whether two codes tell the same from their places on, for all words in registers, slots and inputs."""
    return rest_input(code, at, other, place, width) is None


def rest_input(code, at, other, place, width):
    """Return the tuple of the first output number that is unlike and the least input for it, or None."""
    check_code(code)
    check_code(other)
    check_place(code, at)
    check_place(other, place)
    check_width(width)
    check_no_cell_names(names_in(code + other))
    told = read_rest(code, at, width)
    others = read_rest(other, place, width)
    for number in names_of_both(told, others):
        if number not in told or number not in others:
            return number, {}
        names = names_of_both(told[number].inputs, others[number].inputs)
        values = least_unlike([(told[number], others[number])], names)
        if values is not None:
            return number, values
    return None


def check_no_cell_names(names):
    """Raise BadName with the first of the names that is that of a register or a slot."""
    barred = cell_names()
    for name in names:
        if name in barred:
            raise BadName(name)


def carried(machine, other, place):
    """Return a machine that goes on with another code, and tells what the machine would tell."""
    check_code(other)
    check_place(machine.code, machine.at)
    moved = machine.placed(other, place)
    found = rest_input(machine.code, machine.at, other, place, machine.width)
    if found is not None:
        raise UnlikeRest(found)
    return moved
