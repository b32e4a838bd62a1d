"""What is held behind the places of an order; a set of values is a number with a bit for each of them."""

from samewords.flows import arguments_of


class Holding:
    """What a flow asks of the order of its values."""

    def __init__(self, flow):
        """arguments and users have a set for each value, wanted is the set of what is wanted."""
        self.many = len(flow)
        self.arguments = [set_of(arguments_of(operation)) for operation in flow.operations]
        self.users = [set_of(flow.uses(number)) for number in range(self.many)]
        self.wanted = set_of(flow.wants)

    def is_ready(self, number, done):
        """Tell whether all arguments of a value are done."""
        return not self.arguments[number] & ~done

    def kept(self, done):
        """Return the set of what is wanted or used later of a set of values."""
        found = 0
        for number in members(done):
            if (self.wanted >> number) & 1 or self.users[number] & ~done:
                found = found | (1 << number)
        return found


def set_of(numbers):
    """Return the set of some numbers."""
    found = 0
    for number in numbers:
        found = found | (1 << number)
    return found


def members(held):
    """Return the ascending list of the numbers in a set."""
    return [number for number in range(held.bit_length()) if (held >> number) & 1]


def held_behind(holding, done, last):
    """Return the set of what is held behind a set of values with its last value."""
    return holding.kept(done) | (1 << last)
