"""Reckoning with picks and their words, as rows of tables and as words in a box.

A box has sizes, one for each axis: its rows are all rows of integers from 0 to size - 1.
The words in a box stand in a list, in the ascending order of its rows.
"""

from math import factorial

from samewords.errors import TooMany


def box_rows(sizes):
    """Return the ascending list of the rows of a box."""
    rows = [()]
    for size in sizes:
        rows = [row + (number,) for row in rows for number in range(size)]
    return rows


def rows_in_box(sizes):
    """Return how many rows a box has."""
    many = 1
    for size in sizes:
        many = many * size
    return many


def in_order(picks):
    """Return the list of the picks by their sum, then by the pick."""
    keyed = sorted([(sum(pick), pick) for pick in picks])
    return [pick for _, pick in keyed]


def planes_of(words, size):
    """Return the words in a box, parted by the number on the first axis of this size."""
    many = len(words) // size
    return [words[at * many:(at + 1) * many] for at in range(size)]


def turned(planes):
    """Return the words in the box whose last axis is the one that the planes were parted by."""
    return [word for line in zip(*planes) for word in line]


def box_words(rows, sizes, width):
    """Return the words in the box of what the rows, tuples of a pick in the box and a word, stand for."""
    mask = (1 << width) - 1
    given = {pick: word for pick, word in rows}
    words = [given.get(row, 0) for row in box_rows(sizes)]
    for size in sizes:
        planes = list(planes_of(words, size))
        for step in range(size - 1, 0, -1):
            for at in range(step, size):
                planes[at] = [(one + other) & mask for one, other in zip(planes[at], planes[at - 1])]
        words = turned(planes)
    return words


def box_picks(words, sizes, width):
    """Return the dict from picks to words, none 0, that stands for the words of the width in the box."""
    mask = (1 << width) - 1
    for size in sizes:
        planes = list(planes_of(words, size))
        for step in range(1, size):
            for at in range(size - 1, step - 1, -1):
                planes[at] = [(one - other) & mask for one, other in zip(planes[at], planes[at - 1])]
        words = turned(planes)
    return {row: word for row, word in zip(box_rows(sizes), words) if word != 0}


def cleaned(width, names, rows):
    """Return names and rows without the rows and the names that are not wanted in a table."""
    mask = (1 << width) - 1
    kept = {pick: rows[pick] & mask for pick in rows if max(pick, default=0) <= mask}
    kept = {pick: kept[pick] for pick in kept if kept[pick] != 0}
    used = [at for at in range(len(names)) if any([pick[at] > 0 for pick in kept])]
    left = {tuple([pick[at] for at in used]): kept[pick] for pick in kept}
    return tuple([names[at] for at in used]), left


def added(names, rows, other_names, other_rows, sign):
    """Return names and rows of the sum, or of the difference if sign is -1, of two tables."""
    both = sorted(set(list(names) + list(other_names)))
    found = {pick: word for pick, word in lifted_rows(names, rows, both)}
    for pick, word in lifted_rows(other_names, other_rows, both):
        found[pick] = found.get(pick, 0) + sign * word
    return both, found


def lifted_rows(names, rows, wanted):
    """Return the list of the rows with their picks for the wanted names."""
    if list(names) == list(wanted):
        return list(rows)
    return [(lifted(names, pick, wanted), word) for pick, word in rows]


def lifted(names, pick, wanted):
    """Return the pick for the wanted names, with 0 for those it has no number for."""
    numbers = dict(zip(names, pick))
    return tuple([numbers.get(name, 0) for name in wanted])


def product_terms(one, other):
    """Return the tuples (c, ways) whose sum of ways * C(x, c) is C(x, one) * C(x, other)."""
    found = []
    for number in range(max(one, other), one + other + 1):
        shared = factorial(number - one) * factorial(number - other) * factorial(one + other - number)
        found.append((number, factorial(number) // shared))
    return found


def multiplied(names, rows, other_names, other_rows, width, most):
    """Return names and rows of the product of two tables, or raise TooMany for more rows than most."""
    shared = [name for name in names if name in other_names]
    sizes = shared_sizes(names, rows, other_names, other_rows, shared, width)
    boxes = boxes_by_rest(names, rows, shared, sizes, width)
    other_boxes = boxes_by_rest(other_names, other_rows, shared, sizes, width)
    written = [name for name in list(names) + list(other_names) if name not in shared] + shared
    both = sorted(written)
    mask = (1 << width) - 1
    found = {}
    for rest, words in boxes.items():
        for other_rest, other_words in other_boxes.items():
            products = [(word * other) & mask for word, other in zip(words, other_words)]
            if any(products):
                for pick, word in box_picks(products, sizes, width).items():
                    found[lifted(written, rest + other_rest + pick, both)] = word
            # Each pair of rests has rows of its own, so that none of these goes again.
            if len(found) > most:
                raise TooMany()
    return both, found


def shared_sizes(names, rows, other_names, other_rows, shared, width):
    """Return the sizes of a box that holds all picks of the product for the shared names."""
    sizes = []
    for name in shared:
        highest = max([pick[names.index(name)] for pick, _ in rows], default=0)
        other = max([pick[other_names.index(name)] for pick, _ in other_rows], default=0)
        sizes.append(min(highest + other + 1, 1 << width))
    return sizes


def boxes_by_rest(names, rows, shared, sizes, width):
    """Return the words in the box of the shared names, for each pick of the other names."""
    rests = [name for name in names if name not in shared]
    groups = {}
    for pick, word in rows:
        inner = lifted(names, pick, shared)
        groups.setdefault(lifted(names, pick, rests), []).append((inner, word))
    return {rest: box_words(groups[rest], sizes, width) for rest in groups}
