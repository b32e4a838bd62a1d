"""The fewest registers that any order of a flow needs, and floors, which show that fewer are not enough."""

from samewords.checks import is_integer
from samewords.errors import TooMany
from samewords.holding import Holding, held_behind, members, set_of
from samewords.orders import check_count

MOST_VALUES = 12


def fewest(flow):
    """Return the least need of all orders."""
    check_few(flow)
    least, _ = least_needs(Holding(flow))
    return least[every(flow)]


def best_order(flow):
    """Return an order with the least need."""
    check_few(flow)
    _, lasts = least_needs(Holding(flow))
    done = every(flow)
    order = []
    while done:
        order.append(lasts[done])
        done = done & ~(1 << lasts[done])
    return tuple(reversed(order))


def floor(flow, many):
    """Return the floor of a flow and a count of registers, or None if an order needs no more."""
    check_count(many)
    check_few(flow)
    least, _ = least_needs(Holding(flow))
    if least[every(flow)] <= many:
        return None
    return sorted([tuple(members(done)) for done in least if least[done] <= many])


def is_floor(flow, many, thing):
    """Tell whether a thing is a list of sets that shows that no order needs at most many."""
    check_count(many)
    if not isinstance(thing, list) or not all([is_set_row(flow, row) for row in thing]):
        return False
    found = {set_of(row): True for row in thing}
    if 0 not in found or every(flow) in found:
        return False
    holding = Holding(flow)
    return all([is_closed(holding, many, found, done) for done in found])


def check_few(flow):
    """Raise TooMany for a flow of which not all orders are looked at."""
    if len(flow) > MOST_VALUES:
        raise TooMany()


def every(flow):
    """Return the set of all values."""
    return (1 << len(flow)) - 1


def least_needs(holding):
    """Return two dicts from all sets that are done in the beginnings of orders.

    The first one has the least number, over these beginnings, that is held behind all their places,
    the second one a last value with which that is so.
    """
    least = {0: 0}
    lasts = {}
    # A set is a greater number than each one that it is made of by one more value.
    for done in range(1, 1 << holding.many):
        for last in members(done):
            before = done & ~(1 << last)
            if before in least and holding.is_ready(last, before):
                here = max(least[before], len(members(held_behind(holding, done, last))))
                if done not in least or here < least[done]:
                    least[done] = here
                    lasts[done] = last
    return least, lasts


def is_set_row(flow, thing):
    """Tell whether a thing is an ascending tuple without doubles of numbers of values."""
    if not isinstance(thing, tuple) or len(thing) > len(flow):
        return False
    if not all([is_integer(number) and 0 <= number < len(flow) for number in thing]):
        return False
    return all([thing[at] < thing[at + 1] for at in range(len(thing) - 1)])


def is_closed(holding, many, found, done):
    """Tell whether each set that a set may become, with at most many held behind it, is found."""
    for last in range(holding.many):
        if not (done >> last) & 1 and holding.is_ready(last, done):
            more = done | (1 << last)
            if more not in found and len(members(held_behind(holding, more, last))) <= many:
                return False
    return True
