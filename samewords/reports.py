"""Reports: a plain program, the steps that were made of it, and a code."""

from samewords.checks import is_row
from samewords.coding import code_of
from samewords.errors import BadPasses, BadSteps, SameError
from samewords.passes import PASSES, passed
from samewords.plain import have_same_shape, laid_small, least_unlike, out_tables
from samewords.programs import Program
from samewords.right import is_paper_of_outs, paper_of_outs, told_tables

MOST_STEPS = 8


class Report:
    """A plain program, the programs that were made of it one behind the other, and a code."""

    def __init__(self, program, steps, code):
        found = [out_tables(program)]
        if not is_short_row(steps):
            raise BadSteps(-1)
        for at, step in enumerate(steps):
            found.append(tables_of_step(program, step, at))
        found.append(told_tables(program, code))
        self.program = program
        self.steps = tuple(steps)
        self.code = code
        # The tables of the outs: those of the program, then those of each step, then those that the code tells.
        self._found = found

    def fault(self):
        """Return the tuple of the first step that is not alike and the least input for it, or None."""
        names = sorted(self.program.inputs)
        for at in range(len(self.steps) + 1):
            values = least_unlike(list(zip(self._found[at], self._found[at + 1])), names)
            if values is not None:
                return at, values
        return None

    def holds(self):
        """Tell whether all steps are alike and the code is right."""
        return self.fault() is None

    def papers(self):
        """Return the list of the papers for the steps and for the code, or None if there is a fault."""
        if not self.holds():
            return None
        return [paper_of_outs(self.program, found) for found in self._found[1:]]

    def is_papers(self, thing):
        """Tell whether a thing is a list of papers for the steps and for the code."""
        if not self.holds() or not isinstance(thing, list) or len(thing) != len(self.steps) + 1:
            return False
        return all([is_paper_of_outs(self.program, found, paper) for found, paper in zip(self._found[1:], thing)])

    def __eq__(self, other):
        return isinstance(other, Report) and report_things(self) == report_things(other)


def report_things(report):
    """Return the tuple of the three things that a report is made of."""
    return (report.program, report.steps, report.code)


def is_short_row(thing):
    """Tell whether a thing is a row with no more things than a report has steps."""
    return is_row(thing) and len(thing) <= MOST_STEPS


def tables_of_step(program, step, at):
    """Return the tables of the outs of a step, or raise BadSteps for what is no step of the program."""
    if not isinstance(step, Program) or not have_same_shape(program, step):
        raise BadSteps(at)
    try:
        return out_tables(step)
    except SameError:
        raise BadSteps(at)


def compiled(program, many, passes):
    """Return the report of one pass behind the other, and of a code for what they leave."""
    laid_small(program)
    check_passes(passes)
    last = program
    steps = []
    for name in passes:
        last = passed(last, name)
        steps.append(last)
    return Report(program, steps, code_of(last, many))


def check_passes(passes):
    """Raise BadPasses for what is no row of passes, or for the first thing in it that is none."""
    if not is_short_row(passes):
        raise BadPasses(-1)
    for at, name in enumerate(passes):
        if name not in PASSES:
            raise BadPasses(at)
