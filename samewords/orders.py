"""Orders of the values of a flow: what is held behind their places, and registers for it."""

from samewords.checks import is_integer
from samewords.errors import BadCount, BadOrder, BadPlace
from samewords.holding import Holding, held_behind, members

MOST_COUNT = 64


def is_order(flow, thing):
    """Tell whether a thing is an order: a tuple of each value once, each behind its arguments."""
    if not isinstance(thing, tuple) or len(thing) != len(flow):
        return False
    if not all([is_integer(number) for number in thing]) or sorted(thing) != list(range(len(flow))):
        return False
    holding = Holding(flow)
    done = 0
    for number in thing:
        if not holding.is_ready(number, done):
            return False
        done = done | (1 << number)
    return True


def held(flow, order, place):
    """Return the ascending list of the numbers of the values that are held behind a place."""
    check_order(flow, order)
    if not is_place(flow, place):
        raise BadPlace(place)
    return held_rows(flow, order)[place - 1]


def need(flow, order):
    """Return the greatest number of values that are held behind a place."""
    check_order(flow, order)
    return max([len(row) for row in held_rows(flow, order)])


def laying(flow, order, many):
    """Return a tuple with a register below many for each value, or None if there is none."""
    check_order(flow, order)
    check_count(many)
    rows = held_rows(flow, order)
    if max([len(row) for row in rows]) > many:
        return None
    found = {}
    for number, row in zip(order, rows):
        taken = [found[other] for other in row if other != number]
        # As not more than many are held, there is one that is free.
        found[number] = [place for place in range(many) if place not in taken][0]
    return tuple([found[number] for number in range(len(flow))])


def crowd(flow, order, many):
    """Return the first place behind which more than many are held, with these, or None."""
    check_order(flow, order)
    check_count(many)
    for place, row in enumerate(held_rows(flow, order), start=1):
        if len(row) > many:
            return place, tuple(row)
    return None


def is_laying(flow, order, many, thing):
    """Tell whether a thing is a laying of an order."""
    check_order(flow, order)
    check_count(many)
    if not isinstance(thing, tuple) or len(thing) != len(flow):
        return False
    if not all([is_integer(place) and 0 <= place < many for place in thing]):
        return False
    return all([len(set([thing[number] for number in row])) == len(row) for row in held_rows(flow, order)])


def is_crowd(flow, order, many, thing):
    """Tell whether a thing is a place of an order with all of the more than many that are held there."""
    check_order(flow, order)
    check_count(many)
    if not isinstance(thing, tuple) or len(thing) != 2 or not is_place(flow, thing[0]):
        return False
    row = held_rows(flow, order)[thing[0] - 1]
    if len(row) <= many or not isinstance(thing[1], tuple):
        return False
    return all([is_integer(number) for number in thing[1]]) and list(thing[1]) == row


def is_place(flow, thing):
    """Tell whether a thing is a place of the orders of a flow."""
    return is_integer(thing) and 1 <= thing <= len(flow)


def check_order(flow, order):
    """Raise BadOrder for what is no order of a flow."""
    if not is_order(flow, order):
        raise BadOrder(order)


def check_count(many):
    """Raise BadCount for what is no count of registers."""
    if not is_integer(many) or not 1 <= many <= MOST_COUNT:
        raise BadCount(many)


def held_rows(flow, order):
    """Return for each place of an order the ascending list of what is held behind it."""
    holding = Holding(flow)
    done = 0
    rows = []
    for number in order:
        done = done | (1 << number)
        rows.append(members(held_behind(holding, done, number)))
    return rows
