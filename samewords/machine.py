"""The machine: it runs a code step by step, forward and back."""

from samewords.cells import MOVES, OUTPUTS, REGISTERS, SLOTS, cell_of_output, moved_cell, written_cell
from samewords.checks import check_values, check_width
from samewords.codes import check_code, check_index, check_place, code_inputs, loop_ends, names_in
from samewords.errors import Finished, NothingDone, TooLong
from samewords.flows import operated

MOST_STEPS = 20000


class Machine:
    """A machine on its way through a code; it changes."""

    def __init__(self, code, width, values):
        """Stand ahead of the first instruction; at is the index of the next one, steps how many were done."""
        names = code_inputs(code)
        check_width(width)
        check_values(names, width, values)
        self.code = code
        self.width = width
        self.at = 0
        self.steps = 0
        # The machine has the words of the inputs of its first code, whatever code it goes on with.
        self._first = code
        self._words = {name: values[name] for name in names}
        self._cells = [0] * (REGISTERS + SLOTS) + [None] * OUTPUTS
        self._ends = loop_ends(code)
        # For each loop that it is in, the outermost first, the index of the loop and its number of turns.
        self._loops = ()
        # What is needed to take each step back: at and loops ahead of it, and a cell with what was in it.
        self._past = []

    @property
    def registers(self):
        """The list of the words in the registers."""
        return self._cells[:REGISTERS]

    @property
    def slots(self):
        """The list of the words in the slots."""
        return self._cells[REGISTERS:REGISTERS + SLOTS]

    @property
    def outputs(self):
        """The dict from the output numbers that were told to their words."""
        told = self._cells[cell_of_output(0):]
        return {number: word for number, word in enumerate(told) if word is not None}

    def step(self):
        """Do the next instruction."""
        if self.at == len(self.code):
            raise Finished()
        instruction = self.code[self.at]
        if instruction[0] == "loop":
            cell, word, at, loops = self._begun(instruction)
        elif instruction[0] == "again":
            cell, word, at, loops = self._turned()
        else:
            cell, word, at, loops = written_cell(instruction), self._worked_out(instruction), self.at + 1, self._loops
        self._past.append((self.at, self._loops, cell, self._cells[cell]))
        self._cells[cell] = word
        self.at = at
        self._loops = loops
        self.steps = self.steps + 1

    def back(self):
        """Take the last step back."""
        if not self._past:
            raise NothingDone()
        at, loops, cell, word = self._past.pop()
        self._cells[cell] = word
        self.at = at
        self._loops = loops
        self.steps = self.steps - 1

    def go(self):
        """Do all instructions that are left, and return the outputs."""
        self.go_to(len(self.code))
        return self.outputs

    def go_to(self, at):
        """Do steps until the next instruction is the one with this index, and tell whether it is met."""
        check_index(self.code, at)
        before = self.steps
        while self.at != at:
            if self.at == len(self.code):
                return False
            if self.steps >= MOST_STEPS:
                while self.steps > before:
                    self.back()
                raise TooLong()
            self.step()
        return True

    def placed(self, code, at):
        """Return a machine that stands at a place of a code, and is otherwise like this one."""
        check_code(code)
        check_place(code, at)
        check_values(names_in(code[at:]), self.width, self._words)
        other = Machine(self._first, self.width, self._words)
        other.code = code
        other.at = at
        other.steps = self.steps
        other._cells = list(self._cells)
        other._ends = loop_ends(code)
        return other

    def _worked_out(self, instruction):
        """Return the word that an instruction writes, no loop and no again."""
        word = instruction[0]
        if word == "input":
            return self._words[instruction[2]]
        if word in MOVES:
            return self._cells[moved_cell(instruction)]
        made = instruction[2] if word == "set" else operated(instruction[:1] + instruction[2:], self._cells)
        return made & ((1 << self.width) - 1)

    def _begun(self, instruction):
        """Return what a loop does: its counter, the word of that, where it goes on, and the loops that it is in."""
        _, counter, place = instruction
        turns = self._cells[place]
        if turns == 0:
            return counter, self._cells[counter], self._ends[self.at] + 1, self._loops
        return counter, 0, self.at + 1, self._loops + ((self.at, turns),)

    def _turned(self):
        """Return what an again does, as for a loop."""
        begin, turns = self._loops[-1]
        counter = self.code[begin][1]
        # The counter is written by nothing else, so that it tells how many turns were done ahead of this one.
        word = self._cells[counter]
        if word + 1 < turns:
            return counter, word + 1, begin + 1, self._loops
        return counter, word, self.at + 1, self._loops[:-1]


def go_code(code, width, values):
    """Return the outputs of a new machine that has done all of the code."""
    return Machine(code, width, values).go()
