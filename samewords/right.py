"""Whether a code is right for a plain program, and papers that show it."""

from samewords.boxes import are_box_ends, are_same_words
from samewords.checks import is_integer, is_told_input
from samewords.codes import code_inputs, code_outs
from samewords.errors import BadOuts, TooMany
from samewords.meaning import MOST_ROWS
from samewords.picks import box_rows, rows_in_box
from samewords.plain import least_unlike, out_tables
from samewords.reading import read_back
from samewords.tables import box_sizes, words_of_box


def is_right(program, code):
    """Tell whether a code tells the outs of a plain program for all inputs."""
    return wrong_input(program, code) is None


def wrong_input(program, code):
    """Return the tuple of the first out that is told wrong and the least input for it, or None."""
    for number, pair in enumerate(out_pairs(program, code)):
        values = least_unlike([pair], sorted(program.inputs))
        if values is not None:
            return number, values
    return None


def is_wrong_input(program, code, thing):
    """Tell whether a thing is a tuple of an out and an input at which that is told wrong."""
    pairs = out_pairs(program, code)
    if not isinstance(thing, tuple) or len(thing) != 2:
        return False
    number, values = thing
    if not is_integer(number) or not 0 <= number < len(pairs):
        return False
    if not is_told_input(values, program.inputs, program.width):
        return False
    one, other = pairs[number]
    return one.word_at(values) != other.word_at(values)


def right_paper(program, code):
    """Return the paper with the least ends that shows that a code is right, or None if it is not."""
    pairs = out_pairs(program, code)
    if any([not one == other for one, other in pairs]):
        return None
    return paper_of_outs(program, [one for one, _ in pairs])


def is_right_paper(program, code, thing):
    """Tell whether a thing is a paper that shows that a code is right."""
    pairs = out_pairs(program, code)
    if any([not one == other for one, other in pairs]):
        return False
    return is_paper_of_outs(program, [one for one, _ in pairs], thing)


def out_pairs(program, code):
    """Return the list of the pairs of the table of an out and the table that a code tells for it."""
    found = out_tables(program)
    return list(zip(found, told_tables(program, code)))


def told_tables(program, code):
    """Return the list of the tables that a code tells for the outs of a plain program."""
    names = code_inputs(code)
    outs = code_outs(code)
    if outs != list(range(len(program.outs))) or not all([name in program.inputs for name in names]):
        raise BadOuts(code)
    told = read_back(code, program.width)
    return [told[number] for number in outs]


def paper_of_outs(program, found):
    """Return the paper with the least ends for outs of a program with these tables."""
    names = sorted(program.inputs)
    ends = greatest_numbers(found, names)
    sizes = box_sizes(program.width, ends)
    if rows_in_box(sizes) > MOST_ROWS:
        raise TooMany()
    return ends, words_of_outs(found, names, sizes)


def is_paper_of_outs(program, found, thing):
    """Tell whether a thing is a paper for outs of a program with these tables; its ends may be greater."""
    if not isinstance(thing, tuple) or len(thing) != 2:
        return False
    names = sorted(program.inputs)
    ends, words = thing
    if not are_box_ends(ends, greatest_numbers(found, names), program.width):
        return False
    return are_same_words(words, words_of_outs(found, names, box_sizes(program.width, ends)))


def greatest_numbers(found, names):
    """Return the tuple of the greatest numbers that picks of some tables have for these names."""
    return tuple([max([one.degree(name) for one in found]) for name in names])


def words_of_outs(found, names, sizes):
    """Return the dict from the rows of a box to the tuples of the words of some tables there."""
    columns = [words_of_box(one, names, sizes) for one in found]
    return {row: tuple([column[row] for column in columns]) for row in box_rows(sizes)}
