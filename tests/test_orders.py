"""Orders and layings: [38] and [39]."""

import itertools

from samewords.errors import BadCount, BadOrder, BadPlace
from samewords.flows import Flow
from samewords.orders import crowd, held, is_crowd, is_laying, is_order, laying, need
from tests.helper import Case, any_things, by_lot, large_things, not_integers
from tests.test_flows import flow_by_lot

FLOW = Flow([("input", "x"), ("input", "y"), ("add", 0, 1), ("mul", 2, 0), ("neg", 1), ("sub", 3, 2)], [5, 2])
ORDER = (0, 1, 2, 3, 4, 5)
COUNTS = [0, -1, 65, 10 ** 5000]


def arguments(value):
    return {"add": value[1:], "sub": value[1:], "mul": value[1:], "neg": value[1:], "shl": value[1:2]}.get(value[0], ())


def slow_held(flow, done, last):
    """What is held behind a set of values with its last value, straight by the document."""
    outside = [number for number in range(len(flow)) if number not in done]
    return sorted(number for number in done if number == last or number in flow.wants
                  or any(number in arguments(flow.operations[other]) for other in outside))


def slow_orders(flow):
    numbers = range(len(flow))
    return [order for order in itertools.permutations(numbers)
            if all(order.index(one) < order.index(number) for number in numbers
                   for one in arguments(flow.operations[number]))]


def slow_need(flow, order):
    return max(len(slow_held(flow, order[:place], order[place - 1])) for place in range(1, len(flow) + 1))


def order_by_lot(lot, flow):
    order = []
    while len(order) < len(flow):
        order.append(lot.choice([number for number in range(len(flow)) if number not in order
                                 and all(one in order for one in arguments(flow.operations[number]))]))
    return tuple(order)


class Orders(Case):
    def test_is_order(self):
        for order in (ORDER, (1, 0, 4, 2, 3, 5), (1, 4, 0, 2, 3, 5)):
            self.assertIs(is_order(FLOW, order), True)
        for thing in any_things() + large_things() + [
                list(ORDER), (0, 1, 2, 3, 4), (0, 1, 2, 3, 4, 5, 5), (0, 1, 2, 3, 4, 4), (0, 2, 1, 3, 4, 5),
                (5, 4, 3, 2, 1, 0), (0, 1, 2, 3, 5, 4, 6), (0, 1, 2, 5, 3, 4), (0, 1, 2, 3, 4, 6), (-1, 1, 2, 3, 4, 5),
                (False, 1, 2, 3, 4, 5), (0, True, 2, 3, 4, 5), (0, 1, 2, 3, 4, None), (0, 1, 2, 3, 4, "5"), (),
                (0, 1, 2, 3, 4, (5,)), (0, 1, 2, 3, 4, 10 ** 5000), (4, 0, 1, 2, 3, 5)]:
            self.assertIs(is_order(FLOW, thing), False)

    def test_by_lot(self):
        lot = by_lot(131)
        for _ in range(40):
            flow = flow_by_lot(lot, lot.randrange(1, 6))
            right = slow_orders(flow)
            for order in itertools.permutations(range(len(flow))):
                self.assertIs(is_order(flow, order), order in right)

    def test_held(self):
        self.assertEqual([held(FLOW, ORDER, place) for place in range(1, 7)],
                         [[0], [0, 1], [0, 1, 2], [1, 2, 3], [2, 3, 4], [2, 5]])
        # Nobody uses 4, so that it is held behind its own place alone.
        self.assertEqual([held(FLOW, (1, 4, 0, 2, 3, 5), place) for place in range(1, 7)],
                         [[1], [1, 4], [0, 1], [0, 2], [2, 3], [2, 5]])
        self.fresh(lambda: held(FLOW, ORDER, 3))

    def test_wanted_and_used(self):
        flow = Flow([("set", 1), ("neg", 0), ("neg", 1), ("neg", 2)], [1])
        self.assertEqual([held(flow, (0, 1, 2, 3), place) for place in range(1, 5)], [[0], [1], [1, 2], [1, 3]])
        unused = Flow([("set", 1), ("set", 2), ("set", 3)], [1])
        self.assertEqual([held(unused, (1, 0, 2), place) for place in range(1, 4)], [[1], [0, 1], [1, 2]])
        twice = Flow([("set", 1), ("add", 0, 0), ("mul", 1, 0)], [2])
        self.assertEqual([held(twice, (0, 1, 2), place) for place in range(1, 4)], [[0], [0, 1], [2]])

    def test_held_by_lot(self):
        lot = by_lot(132)
        for many in list(range(1, 13)) * 3 + [40]:
            flow = flow_by_lot(lot, many)
            order = order_by_lot(lot, flow)
            rows = [slow_held(flow, order[:place], order[place - 1]) for place in range(1, many + 1)]
            self.assertEqual([held(flow, order, place) for place in range(1, many + 1)], rows)
            self.assertEqual(need(flow, order), max(len(row) for row in rows))

    def test_need(self):
        self.assertEqual(need(FLOW, ORDER), 3)
        self.assertEqual(need(FLOW, (1, 4, 0, 2, 3, 5)), 2)
        self.assertEqual(need(Flow([("set", 1)], [0]), (0,)), 1)
        many = Flow([("set", at) for at in range(8)], list(range(8)))
        self.assertEqual(need(many, tuple(range(8))), 8)

    def test_wrong(self):
        bad = any_things() + [list(ORDER), (0, 2, 1, 3, 4, 5), (True, 0, 2, 3, 4, 5), ORDER[:5]]
        for order in bad:
            self.fails(BadOrder, order, held, FLOW, order, None)
            self.fails(BadOrder, order, need, FLOW, order)
            for function in (laying, crowd):
                self.fails(BadOrder, order, function, FLOW, order, None)
            for function in (is_laying, is_crowd):
                self.fails(BadOrder, order, function, FLOW, order, None, None)
        for place in not_integers() + [0, -1, 7, 10 ** 5000]:
            self.fails(BadPlace, place, held, FLOW, ORDER, place)
        for many in not_integers() + COUNTS:
            for function in (laying, crowd):
                self.fails(BadCount, many, function, FLOW, ORDER, many)
            for function in (is_laying, is_crowd):
                self.fails(BadCount, many, function, FLOW, ORDER, many, None)


class Layings(Case):
    def test_ordinary(self):
        self.assertIsNone(laying(FLOW, ORDER, 2))
        self.assertIsNone(laying(FLOW, ORDER, 1))
        for many in (3, 4, 64):
            found = laying(FLOW, ORDER, many)
            self.assertIsInstance(found, tuple)
            self.assertIs(is_laying(FLOW, ORDER, many, found), True)
        self.assertEqual(laying(Flow([("set", 1)], [0]), (0,), 1), (0,))

    def test_a_result_in_the_place_of_an_argument(self):
        flow = Flow([("set", 1), ("neg", 0), ("neg", 1), ("add", 2, 2)], [3])
        self.assertEqual(laying(flow, (0, 1, 2, 3), 1), (0, 0, 0, 0))
        self.assertIs(is_laying(flow, (0, 1, 2, 3), 1, (0, 0, 0, 0)), True)

    def test_by_lot(self):
        lot = by_lot(133)
        for many in list(range(1, 13)) * 4 + [40] * 5:
            flow = flow_by_lot(lot, many)
            order = order_by_lot(lot, flow)
            most = need(flow, order)
            for count in range(1, min(most + 3, 65)):
                found = laying(flow, order, count)
                self.assertEqual(found is not None, count >= most)
                self.assertIs(is_laying(flow, order, count, found), count >= most)
                self.assertEqual(laying(flow, order, count), found)

    def test_judge_by_lot(self):
        lot = by_lot(134)
        seen = 0
        for _ in range(30):
            flow = flow_by_lot(lot, lot.randrange(1, 6))
            order = order_by_lot(lot, flow)
            rows = [slow_held(flow, order[:place], order[place - 1]) for place in range(1, len(flow) + 1)]
            for thing in itertools.product(range(3), repeat=len(flow)):
                right = all(len({thing[number] for number in row}) == len(row) for row in rows)
                self.assertIs(is_laying(flow, order, 3, thing), right)
                self.assertIs(is_laying(flow, order, 2, thing), right and max(thing) < 2)
                seen += right
        self.assertGreater(seen, 50)

    def test_judge(self):
        good = laying(FLOW, ORDER, 3)
        for thing in any_things() + large_things() + [
                list(good), good[:5], good + (0,), (0,) * 6, tuple(place + 3 for place in good), (-1,) + good[1:],
                tuple(bool(place) if place < 2 else place for place in good), (None,) + good[1:], good[:5] + (10 ** 5000,)]:
            self.assertIs(is_laying(FLOW, ORDER, 3, thing), False)
        flow = Flow([("set", 1)], [0])
        self.assertIs(is_laying(flow, (0,), 64, (63,)), True)
        self.assertIs(is_laying(flow, (0,), 64, (64,)), False)
        self.assertIs(is_laying(flow, (0,), 64, (True,)), False)


class Crowds(Case):
    def test_ordinary(self):
        self.assertEqual(crowd(FLOW, ORDER, 2), (3, (0, 1, 2)))
        self.assertEqual(crowd(FLOW, ORDER, 1), (2, (0, 1)))
        self.assertIsNone(crowd(FLOW, ORDER, 3))
        self.assertIsNone(crowd(FLOW, ORDER, 64))

    def test_by_lot(self):
        lot = by_lot(135)
        for many in list(range(1, 13)) * 3:
            flow = flow_by_lot(lot, many)
            order = order_by_lot(lot, flow)
            rows = [slow_held(flow, order[:place], order[place - 1]) for place in range(1, many + 1)]
            for count in (1, 2, 3):
                crowded = [(place, tuple(row)) for place, row in enumerate(rows, start=1) if len(row) > count]
                self.assertEqual(crowd(flow, order, count), crowded[0] if crowded else None)
                for place, row in enumerate(rows, start=1):
                    self.assertIs(is_crowd(flow, order, count, (place, tuple(row))), len(row) > count)

    def test_judge(self):
        for place, row in ((3, (0, 1, 2)), (4, (1, 2, 3)), (5, (2, 3, 4))):
            self.assertIs(is_crowd(FLOW, ORDER, 2, (place, row)), True)
        for thing in any_things() + large_things() + [
                (3, [0, 1, 2]), [3, (0, 1, 2)], (3, (0, 2, 1)), (3, (0, 1)), (3, (0, 1, 2, 3)), (2, (0, 1)), (4, (0, 1, 2)),
                (3, (0, True, 2)), (3, (False, 1, 2)), (3, (0, 1, 2), 0), (3,), (0, (0, 1, 2)), (7, (2, 5)), (6, (2, 5)),
                (3, None), ("3", (0, 1, 2)), (3, (0, 1, None)), (-3, (1, 2, 3)), (True, (0,)), (10 ** 5000, (0, 1, 2))]:
            self.assertIs(is_crowd(FLOW, ORDER, 2, thing), False)
        flow = Flow([("set", 1), ("set", 2)], [0, 1])
        self.assertIs(is_crowd(flow, (0, 1), 1, (2, (0, 1))), True)
        self.assertIs(is_crowd(flow, (0, 1), 1, (2, (False, True))), False)
        self.assertIs(is_crowd(flow, (0, 1), 2, (2, (0, 1))), False)
