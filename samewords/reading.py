"""Reading code back: tables go through the cells of a machine in the place of words."""

from samewords.cells import MOVES, REGISTERS, SLOTS, cell_names, moved_cell, written_cell
from samewords.checks import check_width
from samewords.codes import MOST_LOOPS, check_code, loop_ends, names_in, registers_read
from samewords.errors import Unreadable
from samewords.flows import operated
from samewords.laying import new_name
from samewords.tables import Table, sum_below_number, table_of_name


class Content:
    """What stands in a cell: a table, or a mark plus a table. What is lost is None instead."""

    def __init__(self, mark, table):
        """mark is None, or the tuple of the index of a loop and the cell that stands for itself in its body."""
        self.mark = mark
        self.table = table


class Loop:
    """A loop that is open: its index in the code, its counter, and its number of turns."""

    def __init__(self, begin, counter, index, bound, ahead):
        """index is the name that the counter stands for, ahead the dict of what its body writes, as it was."""
        self.begin = begin
        self.counter = counter
        self.index = index
        self.bound = bound
        self.ahead = ahead


class Reader:
    """How far a reading has come: what stands in the cells, the loops that are open, and what was told."""

    def __init__(self, code, width, cells):
        """cells is a list or a dict that has the contents of all cells that are met."""
        self.code = code
        self.width = width
        self.cells = cells
        self.ends = loop_ends(code)
        self.indexes = new_indexes_for(code)
        self.loops = []
        self.told = {}


def read_back(code, width):
    """Return the dict from the output numbers of a code to the tables of what it tells."""
    check_code(code)
    check_width(width)
    zero = content_of_number(width, 0)
    return read_from(code, 0, width, [zero] * (REGISTERS + SLOTS))


def read_rest(code, place, width):
    """Return the dict from the output numbers that a code tells from a place on to tables."""
    names = cell_names()
    cells = {cell: Content(None, table_of_name(width, names[cell])) for cell in cells_met(code[place:])}
    return read_from(code, place, width, cells)


def cells_met(instructions):
    """Return the list of the registers and the slots that some instructions read or write."""
    met = {}
    for one in instructions:
        for place in registers_read(one):
            met[place] = True
        if one[0] == "load":
            met[moved_cell(one)] = True
        if one[0] not in ("again", "out"):
            met[written_cell(one)] = True
    return list(met)


def new_indexes_for(code):
    """Return the list of names for the counters of open loops, one for each depth, that are no other names."""
    barred = {name: True for name in names_in(code) + cell_names()}
    indexes = []
    for _ in range(MOST_LOOPS):
        index = new_name(barred)
        barred[index] = True
        indexes.append(index)
    return indexes


def read_from(code, place, width, cells):
    """Read a code from a place outside all loops on, where the cells hold these contents."""
    reader = Reader(code, width, cells)
    for at in range(place, len(code)):
        word = code[at][0]
        if word == "loop":
            begin_loop(reader, at)
        elif word == "again":
            end_loop(reader)
        elif word == "out":
            tell(reader, at)
        else:
            reader.cells[written_cell(code[at])] = content_made(reader, code[at])
    return reader.told


def tell(reader, at):
    """Read an out; as it stands in no loop, there is no mark."""
    found = reader.cells[moved_cell(reader.code[at])]
    if found is None:
        raise Unreadable(at)
    reader.told[reader.code[at][1]] = found.table


def begin_loop(reader, at):
    """Read a loop: all that its body writes stands for its own mark from here on."""
    _, counter, place = reader.code[at]
    bound = reader.cells[place]
    if bound is None or bound.mark is not None or not is_number_of_turns(bound.table):
        raise Unreadable(at)
    body = reader.code[at + 1:reader.ends[at]]
    written = sorted(set([written_cell(one) for one in body if one[0] != "again"]))
    index = reader.indexes[len(reader.loops)]
    ahead = {cell: reader.cells[cell] for cell in written}
    reader.loops.append(Loop(at, counter, index, bound.table, ahead))
    for cell in written:
        reader.cells[cell] = Content((at, cell), Table(reader.width, (), {}))
    reader.cells[counter] = Content(None, table_of_name(reader.width, index))


def is_number_of_turns(table):
    """Tell whether a table is that of a number or of a name."""
    if not table.inputs:
        return True
    return table == table_of_name(table.width, table.inputs[0])


def end_loop(reader):
    """Read an again: what was added to in the body has its sum behind the loop, and all else is lost."""
    loop = reader.loops.pop()
    for cell, ahead in loop.ahead.items():
        found = reader.cells[cell]
        if found is None or found.mark != (loop.begin, cell) or ahead is None:
            reader.cells[cell] = None
        else:
            reader.cells[cell] = Content(ahead.mark, ahead.table + sum_of_turns(found.table, loop))
    reader.cells[loop.counter] = None


def sum_of_turns(table, loop):
    """Return the table of the sum of a table over all turns of a loop."""
    if loop.bound.inputs:
        return table.sum_below(loop.index, loop.bound.inputs[0])
    return sum_below_number(table, loop.index, loop.bound.word_at({}))


def content_made(reader, instruction):
    """Return what an instruction puts into the cell that it writes, None if that is lost."""
    word = instruction[0]
    if word == "input":
        return Content(None, table_of_name(reader.width, instruction[2]))
    if word == "set":
        return content_of_number(reader.width, instruction[2])
    if word in MOVES:
        return reader.cells[moved_cell(instruction)]
    places = registers_read(instruction)
    found = [reader.cells[place] for place in places]
    if any([one is None for one in found]):
        return None
    marks = [one.mark for one in found]
    if not keeps_mark(word, marks):
        return None
    tables = {place: one.table for place, one in zip(places, found)}
    kept = [mark for mark in marks if mark is not None]
    return Content(kept[0] if kept else None, operated(instruction[:1] + instruction[2:], tables))


def content_of_number(width, number):
    """Return the content that a number is, taken modulo 2 ** width."""
    return Content(None, Table(width, (), {(): number}))


def keeps_mark(word, marks):
    """Tell whether an operation on things with these marks, None for none, gives a table or a mark plus a table."""
    marked = [mark is not None for mark in marks]
    if not any(marked):
        return True
    if word == "add":
        return not all(marked)
    return word == "sub" and not marked[1]
