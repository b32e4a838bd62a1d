"""At how many inputs two formulas without a sum agree, and in how many of their lowest bits."""

from samewords.checks import check_width, is_integer, is_row
from samewords.errors import BadClass, BadFormula, TooMany
from samewords.formulas import check_callless, index_names
from samewords.picks import box_rows
from samewords.polynomials import in_class, in_picks, polynomial_of_pair, twos_within, word_of_polynomial
from samewords.verdicts import check_pair

MOST_CLASSES = 300


def profile(one, other, width):
    """Return the list that tells for each k at how many inputs the lowest k bits agree."""
    found = difference_of(one, other, width)
    return counted(width, len(found.inputs), walked(found))


def verdict(one, other, width):
    """Return "always", "never" or "sometimes" for the inputs at which two formulas agree."""
    counts = profile(one, other, width)
    if counts[-1] == counts[0]:
        return "always"
    return "never" if counts[-1] == 0 else "sometimes"


def nearest(one, other, width):
    """Return the greatest number of lowest bits that agree at some input."""
    counts = profile(one, other, width)
    return max([agreed for agreed, many in enumerate(counts) if many > 0])


def class_kind(one, other, width, thing):
    """Return the tuple (kind, v) of a class."""
    found = difference_of(one, other, width)
    if not is_class(thing, width, len(found.inputs)):
        raise BadClass(thing)
    return kind_of(found, thing[0], thing[1])


def class_paper(one, other, width):
    """Return the ascending list of the classes of the walk that are not split."""
    return sorted(walked(difference_of(one, other, width)))


def is_class_paper(one, other, width, thing):
    """Tell whether a thing is a class paper for two formulas."""
    found = difference_of(one, other, width)
    inputs = len(found.inputs)
    if not is_row(thing) or not all([is_told_class(item, width, inputs) for item in thing]):
        return False
    if not is_parting(width, inputs, [(item[0], item[1]) for item in thing]):
        return False
    for power, residues, kind, agreed in thing:
        if kind_of(found, power, residues) != (kind, agreed):
            return False
    return True


def profile_of(width, inputs, thing):
    """Return the profile that a class paper for formulas with so many inputs tells."""
    check_width(width)
    return counted(width, inputs, thing)


def meets(one, other, width):
    """Return the first input, ordered by the lowest bits, at which the words agree, or None."""
    found = difference_of(one, other, width)
    for power, residues, kind, agreed in walked(found):
        if kind == "full":
            return dict(zip(found.inputs, residues))
        if kind == "steady":
            return dict(zip(found.inputs, first_in_steady(found, power, residues, agreed)))
    return None


def difference_of(one, other, width):
    """Return the polynomial of the difference, or raise the errors of all functions here."""
    check_sumless(one)
    check_sumless(other)
    check_pair(one, other, width)
    return polynomial_of_pair(one, other, width)


def check_sumless(thing):
    """Raise BadFormula for what is no formula, and for one with a call or a sum in it."""
    check_callless(thing)
    if index_names(thing):
        raise BadFormula(thing)


def is_class(thing, width, inputs):
    """Tell whether a thing is a class of formulas with so many inputs."""
    if not isinstance(thing, tuple) or len(thing) != 2:
        return False
    power, residues = thing
    if not is_integer(power) or not 0 <= power <= width:
        return False
    if not isinstance(residues, tuple) or len(residues) != inputs:
        return False
    return all([is_integer(number) and 0 <= number < 1 << power for number in residues])


def is_told_class(thing, width, inputs):
    """Tell whether a thing is a tuple of the two things of a class, of some kind, and of a v."""
    if not isinstance(thing, tuple) or len(thing) != 4:
        return False
    # A class that is split has no integer as its v.
    return is_class(thing[:2], width, inputs) and is_integer(thing[3])


def kind_of(difference, power, residues):
    """Return the tuple (kind, v) of a class that is known to be one."""
    width = difference.width
    rows = box_rows(difference.sizes)
    numbers = in_class(difference, power, residues)
    picks = in_picks(numbers, difference.sizes, width)
    # A pick that no t in the class is great enough for tells nothing.
    told = [twos_within(number, width) for row, number in zip(rows, picks)
            if max(row, default=0) < 1 << (width - power)]
    if min(told) == width:
        return ("full", width)
    if told[0] < min(told[1:], default=width):
        return ("apart", told[0])
    counts = [(sum(row), twos_within(number, width)) for row, number in zip(rows, numbers)]
    agreed = min([count for degree, count in counts if degree == 1], default=width)
    above = min([count for degree, count in counts if degree > 1], default=width)
    if agreed < width and agreed <= counts[0][1] and agreed < above:
        return ("steady", agreed)
    return ("split", None)


def walked(difference):
    """Return the list of the tuples of the classes that are not split, ordered by the lowest bits."""
    inputs = len(difference.inputs)
    bits = box_rows([2] * inputs)
    waiting = [(0, (0,) * inputs)]
    met = 1
    found = []
    while waiting:
        power, residues = waiting.pop()
        kind, agreed = kind_of(difference, power, residues)
        if kind != "split":
            found.append((power, residues, kind, agreed))
            continue
        met = met + len(bits)
        if met > MOST_CLASSES:
            raise TooMany()
        # The last one is taken first, and so on down to its own last bits.
        for row in reversed(bits):
            waiting.append((power + 1, tuple([number + (bit << power) for number, bit in zip(residues, row)])))
    return found


def counted(width, inputs, met):
    """Return the profile of the classes that are not split."""
    counts = [0] * (width + 1)
    for power, _, kind, agreed in met:
        many = 1 << (inputs * (width - power))
        for least in range(width + 1):
            if least <= agreed:
                counts[least] = counts[least] + many
            elif kind == "steady":
                counts[least] = counts[least] + (many >> (least - agreed))
    return counts


def is_parting(width, inputs, parts):
    """Tell whether each input is in just one of these classes."""
    met = {part: True for part in parts}
    whole = sum([1 << (inputs * (width - power)) for power, _ in parts])
    if len(met) != len(parts) or whole != 1 << (inputs * width):
        return False
    powers = sorted(set([power for power, _ in parts]))
    # Classes of two powers have no input in common, or the one of the higher power is within the other.
    for power, residues in parts:
        for lower in powers:
            if lower < power and (lower, lowest_bits(residues, lower)) in met:
                return False
    return True


def lowest_bits(numbers, many):
    """Return the tuple of the numbers modulo 2 ** many."""
    return tuple([number & ((1 << many) - 1) for number in numbers])


def first_in_steady(difference, power, residues, agreed):
    """Return the numbers of the first input of a steady class at which the words agree."""
    rows = box_rows(difference.sizes)
    numbers = in_class(difference, power, residues)
    single = [row.index(1) for row, number in zip(rows, numbers)
              if sum(row) == 1 and twos_within(number, difference.width) == agreed]
    last = max(single)
    found = list(residues)
    # A wrong bit is put right by the next bit of any of these t's; that of the last name makes the first input.
    for step in range(difference.width - agreed):
        if word_of_polynomial(difference, found) >> (agreed + step) & 1:
            found[last] = found[last] + (1 << (power + step))
    return tuple(found)
