"""Points 29 and 30: the least and the greatest distance of two events."""

import unittest

from barbreaks.distances import Distance, farthest, nearest
from barbreaks.errors import BadEvent
from barbreaks.events import all_events
from barbreaks.grids import Grid
from barbreaks.orders import Order
from barbreaks.outlooks import Outlook
from barbreaks.reach import Reach
from barbreaks.runs import run
from tests.helpers import (Case, a_break, a_house, a_piece, an_order, doc_order, many_orders,
                           narrowed_at_random, outlook_bounds, plain_events, rows_within,
                           wide_order)

BIG = 10 ** 40 - 1


def plain_distances(outlook):
    """For each pair of events the least and the greatest distance, by going through all rows."""
    order = outlook.order
    days = [plain_events(order, row) for row in rows_within(outlook_bounds(outlook))]
    found = {}
    for first in days[0]:
        for second in days[0]:
            gaps = [day[second] - day[first] for day in days]
            found[first, second] = (min(gaps), max(gaps))
    return found


def pairs_of_moments(outlook, start, goal):
    """All pairs of moments of two points of one row, carried on from point to point."""
    pairs = {(None, outlook.order.opens)}
    for point in range(goal + 1):
        if point == start:
            pairs = {(moment, moment) for _, moment in pairs}
        if point == goal:
            return pairs
        item = outlook.order.lineup[point // 2]
        if point % 2 == 0:
            span = outlook.span_of(item.name, "delay")
            pairs = {(kept, item.begin_at(moment, x)) for kept, moment in pairs
                     for x in range(span.low, span.high + 1)}
        elif item.name in outlook.order.break_names():
            pairs = {(kept, moment + item.length) for kept, moment in pairs}
        else:
            span = outlook.span_of(item.name, "length")
            pairs = {(kept, moment + x) for kept, moment in pairs
                     for x in range(span.low, span.high + 1)}
    return pairs


class DistanceCase(Case):
    def has(self, found, outlook, first, second, ticks):
        """The Distance has these ticks, and a row that shows it."""
        self.assertIs(type(found), Distance)
        self.assertEqual(found.ticks, ticks, (first, second))
        self.assertIs(type(found.row), list)
        self.assertTrue(all(type(lags) is tuple for lags in found.row))
        self.assertIs(found.row in outlook, True, (first, second))
        day = run(outlook.order, found.row)
        self.assertEqual(day.moment_of(second) - day.moment_of(first), ticks, (first, second))


class TestSmallOrders(DistanceCase):
    def test_against_all_rows(self):
        for number, order in enumerate(many_orders("distances", 30, 400)):
            for outlook in [Outlook(order), narrowed_at_random(Outlook(order), number)]:
                reach = Reach(outlook)
                for (first, second), (least, most) in plain_distances(outlook).items():
                    self.has(nearest(reach, first, second), outlook, first, second, least)
                    self.has(farthest(reach, first, second), outlook, first, second, most)

    def test_orders_of_one_item(self):
        for item in [a_piece("a", grid=Grid(5), delay=3), a_break("a", grid=Grid(3), delay=2)]:
            outlook = Outlook(Order(a_house(), 1, [item]))
            reach = Reach(outlook)
            for (first, second), (least, most) in plain_distances(outlook).items():
                self.has(nearest(reach, first, second), outlook, first, second, least)
                self.has(farthest(reach, first, second), outlook, first, second, most)

    def test_an_event_and_itself(self):
        outlook = Outlook(an_order())
        reach = Reach(outlook)
        for event in all_events(outlook.order):
            self.has(nearest(reach, event, event), outlook, event, event, 0)
            self.has(farthest(reach, event, event), outlook, event, event, 0)

    def test_two_events_of_one_point(self):
        outlook = Outlook(an_order())
        reach = Reach(outlook)
        for first, second, least, most in [
                (("call", "talk"), ("enter", "talk"), 1, 2),
                (("enter", "talk"), ("call", "talk"), -2, -1),
                (("end", "talk"), ("out", "talk"), 3, 5), (("out", "talk"), ("end", "talk"), -5, -3),
                (("begin", "noon"), ("enter", "talk"), 1, 2),
                (("begin", "eve"), ("place", "eve", 2), 8, 8),
                (("place", "eve", 2), ("place", "eve", 1), -4, -4),
                (("place", "noon", 1), ("enter", "talk"), -4, -3)]:
            self.has(nearest(reach, first, second), outlook, first, second, least)
            self.has(farthest(reach, first, second), outlook, first, second, most)

    def test_examples(self):
        outlook = Outlook(doc_order())
        reach = Reach(outlook)
        for first, second, ticks in [(("end", "talk"), ("begin", "eve"), 4),
                                     (("enter", "talk"), ("begin", "talk"), 8)]:
            self.has(nearest(reach, first, second), outlook, first, second, ticks)

    def test_early_begin_is_not_always_nearest(self):
        lineup = [a_piece("a", delay=3), a_piece("b", grid=Grid(10))]
        outlook = Outlook(Order(a_house(), 4, lineup))
        reach = Reach(outlook)
        self.has(nearest(reach, ("begin", "a"), ("begin", "b")), outlook,
                 ("begin", "a"), ("begin", "b"), 4)
        self.has(farthest(reach, ("begin", "a"), ("begin", "b")), outlook,
                 ("begin", "a"), ("begin", "b"), 15)

    def test_empty_order(self):
        reach = Reach(Outlook(Order(a_house(), 4, [])))
        self.has(nearest(reach, ("opens",), ("opens",)), reach.outlook, ("opens",), ("opens",), 0)
        self.has(farthest(reach, ("opens",), ("opens",)), reach.outlook, ("opens",), ("opens",), 0)

    def test_lists_are_new(self):
        reach = Reach(Outlook(an_order()))
        nearest(reach, ("opens",), ("opens",)).row.clear()
        nearest(reach, ("end", "talk"), ("opens",)).row.clear()
        tables = [list(table) for table in reach.tables]
        self.assertEqual(len(nearest(reach, ("opens",), ("opens",)).row), 4)
        self.assertEqual(len(farthest(reach, ("opens",), ("end", "talk")).row), 4)
        self.assertEqual(reach.tables, tables)


class TestChecks(Case):
    def test_bad_events(self):
        reach = Reach(Outlook(an_order()))
        good = ("begin", "noon")
        for event in [("begin",), ("enter", "noon"), ("out", "eve"), ("call", "x"), ("end", ""),
                      ("place", "noon", 2), ("place", "talk", 0), ("opens", "noon")]:
            for call in [nearest, farthest]:
                self.refuses(BadEvent(event), call, reach, event, good)
                self.refuses(BadEvent(event), call, reach, good, event)
                self.refuses(BadEvent(event), call, reach, event, ("begin", "y"))
                self.refuses(BadEvent(event), call, reach, event, event)


class TestWideOrders(DistanceCase):
    def compare(self, order, names):
        outlook = Outlook(order)
        reach = Reach(outlook)
        for number in names:
            for other in names:
                first, second = ("begin", f"x{number}"), ("end", f"x{other}")
                start, goal = 2 * number + 1, 2 * other + 2
                low, high = min(start, goal), max(start, goal)
                gaps = [later - sooner for sooner, later in pairs_of_moments(outlook, low, high)]
                if start > goal:
                    gaps = [-gap for gap in gaps]
                self.has(nearest(reach, first, second), outlook, first, second, min(gaps))
                self.has(farthest(reach, first, second), outlook, first, second, max(gaps))
                self.has(nearest(reach, second, first), outlook, second, first, -max(gaps))

    def test_steps_of_one(self):
        self.compare(wide_order([1] * 8), [0, 7])

    def test_mixed_steps(self):
        self.compare(wide_order([7, 3, 12, 5, 2, 30, 1, 9], breaks=(2, 5), opens=-40), [0, 1, 4, 7])

    def test_falling_steps(self):
        self.compare(wide_order([10 ** 39, 10 ** 20, 1000, 64, 40, 17, 12, 9], minute=50), [1, 3, 7])

    def test_rising_steps(self):
        self.compare(wide_order([2, 5, 9, 17, 40, 64, 1000, BIG], least=BIG - 8), [0, 3, 6, 7])

    def test_walks_and_packs(self):
        outlook = Outlook(wide_order([7, 3, 12, 5, 2, 30, 1, 9], breaks=(2, 5), opens=-40))
        reach = Reach(outlook)
        plain = nearest(reach, ("end", "x1"), ("begin", "x4"))
        first, second = ("out", "x1"), ("enter", "x6")
        self.has(nearest(reach, first, second), outlook, first, second, plain.ticks - 10)
        plain = farthest(reach, ("end", "x1"), ("begin", "x4"))
        self.has(farthest(reach, first, second), outlook, first, second, plain.ticks - 2 + 8)


class TestFact(Case):
    def test_three_events(self):
        for order in many_orders("three events", 12, 10 ** 9):
            reach = Reach(Outlook(order))
            events = all_events(order)
            least = {(first, second): nearest(reach, first, second).ticks
                     for first in events for second in events}
            for first in events:
                for second in events:
                    for third in events:
                        self.assertGreaterEqual(least[first, third],
                                                least[first, second] + least[second, third])


if __name__ == "__main__":
    unittest.main()
