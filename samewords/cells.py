"""The cells of a machine: its registers, its slots and its outputs, numbered in one row."""

from samewords.checks import LETTERS

REGISTERS = 16
SLOTS = 256
OUTPUTS = 8
MOVES = ("copy", "store", "load", "out")


def cell_of_slot(slot):
    """Return the number of the cell that a slot is."""
    return REGISTERS + slot


def cell_of_output(number):
    """Return the number of the cell that an output is."""
    return REGISTERS + SLOTS + number


def written_cell(instruction):
    """Return the cell that an instruction writes, no again; a loop writes its counter."""
    word = instruction[0]
    if word == "store":
        return cell_of_slot(instruction[1])
    if word == "out":
        return cell_of_output(instruction[1])
    return instruction[1]


def moved_cell(instruction):
    """Return the cell whose word one of the moves takes somewhere else."""
    if instruction[0] == "load":
        return cell_of_slot(instruction[2])
    return instruction[2]


def cell_names():
    """Return the list of the names that the registers and the slots have in rests."""
    registers = ["r" + letter for letter in LETTERS[:REGISTERS]]
    slots = ["s" + first + second for first in LETTERS for second in LETTERS]
    return registers + slots[:SLOTS]
