"""Fewest: [40]."""

import itertools

from samewords.errors import BadCount, TooMany
from samewords.floors import best_order, fewest, floor, is_floor
from samewords.flows import Flow
from samewords.orders import is_order, need
from tests.helper import Case, any_things, by_lot, large_things, not_integers
from tests.test_flows import flow_by_lot
from tests.test_orders import COUNTS, arguments, slow_held, slow_need, slow_orders

FLOW = Flow([("input", "x"), ("input", "y"), ("mul", 0, 1), ("add", 0, 1), ("sub", 2, 3)], [4])


def slow_floor(flow, many):
    """All sets that are done in beginnings of orders behind whose places at most many are held."""
    found = set()
    for order in slow_orders(flow):
        for place in range(len(flow) + 1):
            if place and len(slow_held(flow, order[:place], order[place - 1])) > many:
                break
            found.add(tuple(sorted(order[:place])))
    return sorted(found)


def slow_is_floor(flow, many, rows):
    found = {tuple(row) for row in rows}
    if () not in found or tuple(range(len(flow))) in found:
        return False
    for row in found:
        for number in range(len(flow)):
            if number not in row and all(one in row for one in arguments(flow.operations[number])):
                more = tuple(sorted(row + (number,)))
                if len(slow_held(flow, more, number)) <= many and more not in found:
                    return False
    return True


def flow_of_many(many):
    """A flow of inputs that are added up, for which the need of an order is at least 2."""
    values = [("input", "x")]
    while len(values) < many:
        values.append(("set", len(values)) if len(values) % 2 else ("add", len(values) - 2, len(values) - 1))
    return Flow(values, [many - 1])


class Fewest(Case):
    def test_ordinary(self):
        self.assertEqual(fewest(FLOW), 3)
        self.assertEqual(fewest(Flow([("set", 1)], [0])), 1)
        self.assertEqual(fewest(Flow([("set", 1), ("neg", 0), ("neg", 1)], [2])), 1)
        self.assertEqual(fewest(Flow([("set", 1), ("neg", 0), ("neg", 1)], [2, 0])), 2)
        self.assertEqual(fewest(Flow([("set", at) for at in range(8)], list(range(8)))), 8)
        # Values that nobody uses are held, too, behind their own places.
        self.assertEqual(fewest(Flow([("set", 1), ("set", 2)], [0])), 1)
        self.assertEqual(best_order(Flow([("set", 1), ("set", 2)], [0])), (1, 0))

    def test_by_lot(self):
        lot = by_lot(141)
        for _ in range(60):
            flow = flow_by_lot(lot, lot.randrange(1, 7))
            least = min(slow_need(flow, order) for order in slow_orders(flow))
            self.assertEqual(fewest(flow), least)
            order = best_order(flow)
            self.assertIs(is_order(flow, order), True)
            self.assertEqual(slow_need(flow, order), least)
            self.assertEqual(best_order(flow), order)

    def test_12_values_and_13(self):
        lot = by_lot(142)
        for flow in [flow_by_lot(lot, 12) for _ in range(3)] + [flow_of_many(12)]:
            self.assertEqual(need(flow, best_order(flow)), fewest(flow))
            least = fewest(flow)
            self.assertIsNone(floor(flow, least))
            if least > 1:
                self.assertIs(is_floor(flow, least - 1, floor(flow, least - 1)), True)
        self.assertEqual(fewest(flow_of_many(11)), 2)
        wide = Flow([("set", at) for at in range(12)], [11])
        self.assertEqual(fewest(wide), 1)
        for flow in (flow_of_many(13), flow_of_many(40)):
            self.fails(TooMany, None, fewest, flow)
            self.fails(TooMany, None, best_order, flow)
            self.fails(TooMany, None, floor, flow, 1)
            self.fails(TooMany, None, floor, flow, 64)


class Floors(Case):
    def test_ordinary(self):
        self.assertEqual(floor(FLOW, 2), [(), (0,), (0, 1), (1,)])
        self.assertEqual(floor(FLOW, 1), [(), (0,), (1,)])
        self.assertIsNone(floor(FLOW, 3))
        self.assertIsNone(floor(FLOW, 64))
        self.assertEqual(floor(Flow([("set", 1), ("set", 2)], [0, 1]), 1), [(), (0,), (1,)])
        self.fresh(lambda: floor(FLOW, 2))

    def test_by_lot(self):
        lot = by_lot(143)
        seen = 0
        for _ in range(80):
            flow = flow_by_lot(lot, lot.randrange(1, 7))
            for many in range(1, 5):
                expected = slow_floor(flow, many)
                found = floor(flow, many)
                if tuple(range(len(flow))) in expected:
                    self.assertIsNone(found)
                else:
                    seen += 1
                    self.assertEqual(found, expected)
                    self.assertEqual([type(row) for row in found], [tuple] * len(found))
                    self.assertIs(is_floor(flow, many, found), True)
                    self.assertIs(is_floor(flow, fewest(flow), found), False)
        self.assertGreater(seen, 60)

    def test_wrong(self):
        for many in not_integers() + COUNTS:
            self.fails(BadCount, many, floor, FLOW, many)
            self.fails(BadCount, many, floor, flow_of_many(13), many)
            self.fails(BadCount, many, is_floor, flow_of_many(13), many, None)
            self.fails(BadCount, many, is_floor, FLOW, many, [()])


class Judging(Case):
    def judge(self, thing, found, flow=FLOW, many=2):
        self.assertIs(is_floor(flow, many, thing), found)

    def test_spoilt(self):
        good = floor(FLOW, 2)
        self.judge(good, True)
        self.judge(good[::-1], True)
        self.judge(good + good, True)
        self.judge(good * 1000, True)
        for at in range(len(good)):
            self.judge(good[:at] + good[at + 1:], False)
        for row in any_things() + large_things() + [
                [0], (1, 0), (0, 0), (0, 5), (-1, 0), (True,), (False, 1), (0, None), ("0",), (0, 1, 2, 3, 4), (0, (1,)),
                (10 ** 5000,)]:
            if row != () and row != (1,):
                self.judge(good + [row], False)
        for thing in any_things() + large_things() + [tuple(good), {row: True for row in good}, [()], [list(row) for row in good]]:
            self.judge(thing, False)

    def test_sets_need_not_be_closed_under_arguments(self):
        good = floor(FLOW, 2)
        # Behind (1, 2) with 2 as the last, 1 and 2 are held; 0, 3 and 4 may come behind it.
        for row in [row for many in range(1, 5) for row in itertools.combinations(range(5), many)]:
            self.judge(good + [row], slow_is_floor(FLOW, 2, good + [row]))
        self.judge(good + [(2,)], False)
        self.judge(good + [(0, 2, 3)], slow_is_floor(FLOW, 2, good + [(0, 2, 3)]))
        whole = [row for many in range(5) for row in itertools.combinations(range(5), many)]
        self.judge(whole, slow_is_floor(FLOW, 2, whole))
        self.judge(whole, slow_is_floor(FLOW, 1, whole), FLOW, 1)

    def test_by_lot(self):
        lot = by_lot(144)
        seen = {True: 0, False: 0}
        for _ in range(400):
            flow = flow_by_lot(lot, lot.randrange(2, 6))
            many = lot.randrange(1, 4)
            rows = floor(flow, many) or slow_floor(flow, many)[:-1]
            every = [row for size in range(len(flow)) for row in itertools.combinations(range(len(flow)), size)]
            rows = rows + lot.sample(every, lot.randrange(2))
            if lot.randrange(3) == 0:
                rows.pop(lot.randrange(len(rows)))
            expected = slow_is_floor(flow, many, rows)
            seen[expected] += 1
            self.judge(rows, expected, flow, many)
        self.assertGreater(min(seen.values()), 50)

    def test_large_flows(self):
        """Where a flow has more than 12 values there may still be floors to judge."""
        flow = flow_of_many(39)
        self.judge([(), (0,)] + [(at,) for at in range(1, 39, 2)], True, flow, 1)
        self.judge([(), (0,)] + [(at,) for at in range(1, 37, 2)], False, flow, 1)
        self.judge([()], False, flow, 1)
        self.judge([()], False, flow, 64)
        self.judge([(), (0,)], True, Flow([("input", "x"), ("neg", 0)], [0, 1]), 1)
        wide = Flow([("set", at) for at in range(8)], list(range(8)))
        rows = [row for size in range(8) for row in itertools.combinations(range(8), size)]
        self.judge(rows, True, wide, 7)
        self.judge(rows, False, wide, 8)
        self.judge(rows[:-1], False, wide, 7)
