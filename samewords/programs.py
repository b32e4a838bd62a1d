"""Programs of formulas: making them, laying their calls in, and running them."""

from samewords.checks import check_values, check_width, is_row
from samewords.errors import BadFormula, BadProgram, TooLong
from samewords.formulas import Formula
from samewords.laying import laid_bodies, laid_in
from samewords.meaning import MOST_TURNS, turns_of, word_of
from samewords.wrongs import first_wrong, names_of_defs


class Choice:
    """The value of a let: same if left and right have the same word, otherwise other."""

    def __init__(self, left, right, same, other):
        for formula in (left, right, same, other):
            if not isinstance(formula, Formula):
                raise BadFormula(formula)
        self.left = left
        self.right = right
        self.same = same
        self.other = other

    def __eq__(self, other):
        return isinstance(other, Choice) and choice_formulas(self) == choice_formulas(other)


class Program:
    """A program: a width, inputs, defs of formulas to call, lets of values, and outs."""

    def __init__(self, width, inputs, defs, lets, outs):
        check_width(width)
        wrong = first_wrong(inputs, defs, readable_lets(lets), outs)
        if wrong is not None:
            raise BadProgram(wrong)
        self.width = width
        self.inputs = tuple(inputs)
        self.defs = tuple(defs)
        self.lets = tuple(lets)
        self.outs = tuple(outs)

    def laid(self):
        """Return the program without defs, each call being replaced by the body of its def."""
        lets = [name for name, _ in self.lets]
        taken = list(self.inputs) + names_of_defs(self.defs) + lets
        bodies = laid_bodies(self.defs, taken)
        values = [laid_value(value, bodies, taken) for _, value in self.lets]
        return Program(self.width, self.inputs, (), list(zip(lets, values)), self.outs)

    def __eq__(self, other):
        return isinstance(other, Program) and program_things(self) == program_things(other)


def choice_formulas(choice):
    """Return the tuple of the four formulas of a choice."""
    return (choice.left, choice.right, choice.same, choice.other)


def program_things(program):
    """Return the tuple of the five things that a program is made of."""
    return (program.width, program.inputs, program.defs, program.lets, program.outs)


def readable_lets(lets):
    """Return the lets as first_wrong takes them."""
    if not is_row(lets):
        return None
    return [readable_let(item) for item in lets]


def readable_let(item):
    """Return the tuple of the name and the formulas of a let, None for no tuple of two things."""
    if not isinstance(item, tuple) or len(item) != 2:
        return None
    if isinstance(item[1], Choice):
        return (item[0], choice_formulas(item[1]))
    if isinstance(item[1], Formula):
        return (item[0], (item[1],))
    return (item[0], ())


def laid_value(value, bodies, taken):
    """Return the value of a let with all calls laid in."""
    if isinstance(value, Choice):
        formulas = [laid_in(one, bodies, (), taken) for one in choice_formulas(value)]
        return Choice(*formulas)
    return laid_in(value, bodies, (), taken)


def check_program(thing):
    """Raise BadProgram for what is no program."""
    if not isinstance(thing, Program):
        raise BadProgram(thing)


def is_plain(program):
    """Tell whether a program has no choice."""
    check_program(program)
    return not any([isinstance(value, Choice) for _, value in program.lets])


def run(program, values):
    """Return the dict from the outs of a program to their words."""
    check_program(program)
    laid = program.laid()
    check_values(sorted(laid.inputs), laid.width, values)
    words = {name: values[name] for name in laid.inputs}
    done = 0
    for name, value in laid.lets:
        words[name], done = worked_out(value, laid.width, words, done)
    return {name: words[name] for name in laid.outs}


def worked_out(value, width, words, done):
    """Return the word of a let's value, and the number of turns done with those done ahead."""
    if not isinstance(value, Choice):
        return reckoned(value, width, words, done)
    left, done = reckoned(value.left, width, words, done)
    right, done = reckoned(value.right, width, words, done)
    if left == right:
        return reckoned(value.same, width, words, done)
    return reckoned(value.other, width, words, done)


def reckoned(formula, width, words, done):
    """Return the word of a formula, and the number of turns done with those done ahead."""
    done = done + turns_of(formula, width, words)
    if done > MOST_TURNS:
        raise TooLong()
    return word_of(formula, width, words), done
