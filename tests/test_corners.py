"""Point 32: the corners and hollows of an outlook."""

import unittest

from barbreaks.corners import corner, hollow
from barbreaks.distances import farthest, nearest
from barbreaks.errors import NoPoint
from barbreaks.grids import Grid
from barbreaks.items import Piece
from barbreaks.orders import Order
from barbreaks.outlooks import Outlook
from barbreaks.reach import Reach
from barbreaks.runs import run
from tests.helpers import (Case, a_house, an_order, many_orders, narrowed_at_random,
                           outlook_bounds, wide_order)


def plain_row(outlook, point, before, behind):
    """The row of point 32; `before` and `behind` are 0 for least and 1 for greatest lags."""
    row = []
    for number, pairs in enumerate(outlook_bounds(outlook)):
        lags = [pairs[0][before if point > 2 * number else behind]]
        if len(pairs) > 1:
            lags.append(pairs[1][before if point > 2 * number + 1 else behind])
            lags.extend([pairs[2][0], pairs[3][1]])
        row.append(tuple(lags))
    return row


def step_one(order):
    """The order with grids of step 1 alone."""
    return Order(order.house, order.opens, [alike(item) for item in order])


def alike(item):
    if isinstance(item, Piece):
        return Piece(item.name, grid=Grid(1), least=item.least, most=item.most,
                     minute=item.minute, delay=item.delay)
    return type(item)(item.name, grid=Grid(1), minute=item.minute, places=item.places,
                      unit=item.unit, delay=item.delay)


def event_at(order, point):
    if point == 0:
        return ("opens",)
    return ("begin" if point % 2 else "end", order.lineup[(point - 1) // 2].name)


class TestRows(Case):
    def test_an_order(self):
        outlook = Outlook(an_order())
        least, most = [(0,), (0, 4, 1, 5), (0, 7, 1, 5), (0,)], [(1,), (2, 6, 1, 5), (1, 7, 1, 5), (0,)]
        self.assertEqual(corner(outlook, 0), least)
        self.assertEqual(hollow(outlook, 0), most)
        self.assertEqual(corner(outlook, 8), most)
        self.assertEqual(hollow(outlook, 8), least)
        self.assertEqual(corner(outlook, 1), [(1,), *least[1:]])
        self.assertEqual(corner(outlook, 2), [(1,), *least[1:]])
        self.assertEqual(corner(outlook, 3), [(1,), (2, 4, 1, 5), *least[2:]])
        self.assertEqual(corner(outlook, 4), [(1,), (2, 6, 1, 5), *least[2:]])
        self.assertEqual(hollow(outlook, 3), [(0,), (0, 6, 1, 5), *most[2:]])
        self.assertEqual(hollow(outlook, 4), [(0,), (0, 4, 1, 5), *most[2:]])

    def test_all_points_of_many_outlooks(self):
        for number, order in enumerate(many_orders("corners", 40, 10 ** 9)):
            for outlook in [Outlook(order), narrowed_at_random(Outlook(order), number)]:
                for point in range(order.points):
                    self.assertEqual(corner(outlook, point), plain_row(outlook, point, 1, 0))
                    self.assertEqual(hollow(outlook, point), plain_row(outlook, point, 0, 1))
                    self.assertIn(corner(outlook, point), outlook)
                    self.assertIn(hollow(outlook, point), outlook)

    def test_kinds_of_values(self):
        outlook = Outlook(an_order())
        for call in [corner, hollow]:
            row = call(outlook, 3)
            self.assertIs(type(row), list)
            self.assertTrue(all(type(lags) is tuple for lags in row))
            row.clear()
            self.assertEqual(len(call(outlook, 3)), 4)

    def test_empty_order(self):
        outlook = Outlook(Order(a_house(), 4, []))
        self.assertEqual(corner(outlook, 0), [])
        self.assertEqual(hollow(outlook, 0), [])

    def test_long_numbers(self):
        huge = 10 ** 40 - 1
        outlook = Outlook(wide_order([1] * 8, least=huge - 8))
        self.assertEqual(corner(outlook, 16)[7], (8, huge, 0, 10))
        self.assertEqual(hollow(outlook, 15)[7], (0, huge, 0, 10))

    def test_no_point(self):
        for outlook, count in [(Outlook(an_order()), 9), (Outlook(Order(a_house(), 4, [])), 1)]:
            for call in [corner, hollow]:
                for point in [-1, count, count + 1, -count, 10 ** 40 - 1, 1 - 10 ** 40]:
                    self.refuses(NoPoint(point), call, outlook, point)


class TestFact(Case):
    def compare(self, outlook):
        """With grids of step 1 the rows show the least and the greatest distances."""
        order = outlook.order
        reach = Reach(outlook)
        for p in range(order.points):
            soon = run(order, corner(outlook, p)).moments
            late = run(order, hollow(outlook, p)).moments
            for q in range(p, order.points):
                first, second = event_at(order, p), event_at(order, q)
                self.assertEqual(nearest(reach, first, second).ticks, soon[q] - soon[p])
                self.assertEqual(farthest(reach, first, second).ticks, late[q] - late[p])

    def test_small_orders(self):
        for number, order in enumerate(many_orders("steps of one", 40, 10 ** 9)):
            self.compare(Outlook(step_one(order)))
            self.compare(narrowed_at_random(Outlook(step_one(order)), number))

    def test_wide_orders(self):
        self.compare(Outlook(wide_order([1] * 8)))
        self.compare(Outlook(wide_order([1] * 8, breaks=(2, 5), opens=-40, minute=33)))


if __name__ == "__main__":
    unittest.main()
