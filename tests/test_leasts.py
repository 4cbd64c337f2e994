"""Point 31: the table of least distances of points."""

import unittest

from barbreaks.distances import farthest, nearest
from barbreaks.leasts import least_table
from barbreaks.orders import Order
from barbreaks.outlooks import Outlook
from barbreaks.reach import Reach
from tests.helpers import (Case, a_house, an_order, doc_order, many_orders, narrowed_at_random,
                           outlook_bounds, plain_moments, rows_within, wide_order)

BIG = 10 ** 40 - 1


def wide_reaches():
    yield Reach(Outlook(wide_order([1] * 8)))
    yield Reach(Outlook(wide_order([7, 3, 12, 5, 2, 30, 1, 9], breaks=(2, 5), opens=-40)))
    yield Reach(Outlook(wide_order([100 ** k for k in range(8, 0, -1)], least=BIG - 8)))
    yield Reach(Outlook(wide_order([2, 5, 9, 17, 40, 64, 1000, BIG], minute=50)))


def event_at(order, point):
    """An event that comes exactly at the point."""
    if point == 0:
        return ("opens",)
    return ("begin" if point % 2 else "end", order.lineup[(point - 1) // 2].name)


class TestLeastTable(Case):
    def test_example(self):
        table = least_table(Reach(Outlook(doc_order())))
        self.assertEqual(table, [
            [0, 10, 20, 20, 24, 30, 40],
            [-10, 0, 10, 10, 14, 20, 30],
            [-20, -10, 0, 0, 4, 10, 20],
            [-20, -10, 0, 0, 4, 10, 20],
            [-26, -16, -6, -6, 0, 4, 14],
            [-30, -20, -10, -10, -6, 0, 10],
            [-40, -30, -20, -20, -16, -10, 0]])
        self.assertIs(type(table), list)
        self.assertTrue(all(type(line) is list for line in table))

    def test_empty_order(self):
        self.assertEqual(least_table(Reach(Outlook(Order(a_house(), 4, [])))), [[0]])

    def test_against_all_rows(self):
        for number, order in enumerate(many_orders("leasts", 40, 600)):
            for outlook in [Outlook(order), narrowed_at_random(Outlook(order), number)]:
                days = [plain_moments(order, row) for row in rows_within(outlook_bounds(outlook))]
                points = range(order.points)
                right = [[min(day[q] - day[p] for day in days) for q in points] for p in points]
                self.assertEqual(least_table(Reach(outlook)), right)

    def test_against_nearest(self):
        for reach in wide_reaches():
            order = reach.outlook.order
            table = least_table(reach)
            self.assertEqual([len(line) for line in table], [17] * 17)
            for p in range(17):
                for q in range(0, 17, 3):
                    first, second = event_at(order, p), event_at(order, q)
                    self.assertEqual(table[p][q], nearest(reach, first, second).ticks)
                    self.assertEqual(table[p][q], -farthest(reach, second, first).ticks)

    def test_three_points(self):
        reaches = [Reach(Outlook(order)) for order in many_orders("three points", 25, 10 ** 9)]
        for reach in [*reaches, *wide_reaches()]:
            table = least_table(reach)
            points = range(len(table))
            for p in points:
                self.assertEqual(table[p][p], 0)
                for q in points:
                    for r in points:
                        self.assertGreaterEqual(table[p][r], table[p][q] + table[q][r])

    def test_lists_are_new(self):
        reach = Reach(Outlook(an_order()))
        tables = [list(table) for table in reach.tables]
        first = least_table(reach)
        before = [list(line) for line in first]
        for line in first:
            line.clear()
        self.assertEqual(least_table(reach), before)
        self.assertEqual(reach.tables, tables)

    def test_lines_are_not_the_same_list(self):
        table = least_table(Reach(Outlook(an_order())))
        self.assertEqual(len({id(line) for line in table}), 9)


if __name__ == "__main__":
    unittest.main()
