"""Desks: plain programs by their names, which may be exchanged, made into code, and taken back."""

from samewords.checks import check_name, check_values, is_name
from samewords.errors import BadName, BadProgram, NoCode, NothingDone, Unlike
from samewords.machine import Machine
from samewords.plain import have_same_shape, laid_small, out_tables, programs_apart
from samewords.reports import compiled


class Desk:
    """Plain programs by names, each with a report or None; it changes."""

    def __init__(self):
        self._held = {}
        # For each deed that is not taken back, a name and what was held for it ahead of the deed, None for nothing.
        self._done = []

    def put(self, name, program):
        """Put a program there under a new name."""
        check_name(name)
        if name in self._held:
            raise BadName(name)
        laid_small(program)
        self._change(name, (program, None))

    def drop(self, name):
        """Take a program and its report away."""
        self._check_there(name)
        self._change(name, None)

    def exchange(self, name, program):
        """Put a program that is alike in the place of another one."""
        self._check_there(name)
        laid_small(program)
        elder, report = self._held[name]
        if not have_same_shape(elder, program):
            raise BadProgram(program)
        values = programs_apart(elder, program)
        if values is not None:
            raise Unlike(values)
        self._change(name, (program, report))

    def make(self, name, many, passes):
        """Keep a report beside a program."""
        self._check_there(name)
        program, _ = self._held[name]
        self._change(name, (program, compiled(program, many, passes)))

    def undo(self):
        """Take the last deed back."""
        if not self._done:
            raise NothingDone()
        name, before = self._done.pop()
        self._hold(name, before)

    def names(self):
        """Return the ascending list of the names."""
        return sorted(self._held)

    def program_of(self, name):
        """Return the program of a name."""
        self._check_there(name)
        return self._held[name][0]

    def report_of(self, name):
        """Return the report of a name, or None if there is none."""
        self._check_there(name)
        return self._held[name][1]

    def machine_of(self, name, values):
        """Return a new machine with the code for the program of a name."""
        self._check_there(name)
        program, report = self._held[name]
        if report is None:
            raise NoCode(name)
        check_values(sorted(program.inputs), program.width, values)
        return Machine(report.code, program.width, values)

    def families(self):
        """Return the list of the tuples of names whose programs are of one shape and alike."""
        groups = []
        for name in self.names():
            program, _ = self._held[name]
            found = out_tables(program)
            same = [group for group in groups if have_same_shape(group[0], program) and group[1] == found]
            if same:
                same[0][2].append(name)
            else:
                groups.append((program, found, [name]))
        return [tuple(names) for _, _, names in groups]

    def trying(self, deed):
        """Return what a deed with this desk returns; behind it the desk is as it was."""
        held = dict(self._held)
        done = list(self._done)
        try:
            return deed(self)
        finally:
            self._held = held
            self._done = done

    def _check_there(self, name):
        """Raise BadName for what is no name of a program there."""
        if not is_name(name) or name not in self._held:
            raise BadName(name)

    def _change(self, name, item):
        """Do a deed: hold something else for a name, None for nothing."""
        self._done.append((name, self._held.get(name)))
        self._hold(name, item)

    def _hold(self, name, item):
        """Hold something else for a name."""
        if item is None:
            self._held.pop(name)
        else:
            self._held[name] = item
