"""Points 34 and 35: breaches of least lateness."""

import unittest

from barbreaks.breaches import Breach, breaker
from barbreaks.demands import Demand, margin
from barbreaks.errors import BadEvent
from barbreaks.events import all_events
from barbreaks.grids import Grid
from barbreaks.orders import Order
from barbreaks.outlooks import Outlook
from barbreaks.reach import Reach
from barbreaks.runs import run
from tests.helpers import (Case, a_house, a_piece, an_order, count_rows, doc_order, many_orders,
                           narrowed_at_random, outlook_bounds, plain_events, rows_within,
                           wide_order)

BIG = 10 ** 40 - 1


def rows_by_lateness(outlook):
    """Pairs (lateness, events) of all rows, the least lateness first."""
    bounds = outlook_bounds(outlook)
    low = sum(least for pairs in bounds for least, _ in pairs)
    found = [(sum(sum(lags) for lags in row) - low, plain_events(outlook.order, row))
             for row in rows_within(bounds)]
    return sorted(found, key=lambda pair: pair[0])


def least_lateness(days, demand):
    """The least lateness of a row in which the demand is not kept, or None."""
    for lateness, events in days:
        if events[demand.second] - events[demand.first] < demand.ticks:
            return lateness
    return None


def ways_of(outlook, start, goal):
    """All pairs of moments of two points, with the least lateness of the delays and lengths."""
    order = outlook.order
    ways = {(None, order.opens): 0}
    for point in range(goal + 1):
        if point == start:
            ways = {(moment, moment): late for (_, moment), late in ways.items()}
        if point == goal:
            return ways
        item = order.lineup[point // 2]
        name = item.name
        is_break = name in order.break_names()
        lags = [item.length] if is_break else values(outlook, name, "length")
        if point % 2 == 0:
            lags = values(outlook, name, "delay")
        after = {}
        for (kept, moment), late in ways.items():
            for lag in lags:
                then = item.begin_at(moment, lag) if point % 2 == 0 else moment + lag
                total = late + lag - lags[0]
                after[kept, then] = min(total, after.get((kept, then), total))
        ways = after
    return ways


def values(outlook, name, word):
    span = outlook.span_of(name, word)
    return list(range(span.low, span.high + 1))


def shifts_of(outlook, event):
    """The ticks from the point of an event to the event, without those of places."""
    word = {"enter": "walk", "out": "pack"}.get(event[0])
    return [0] if word is None else values(outlook, event[1], word)


def gaps_of(outlook, points):
    """All distances of two points, with the least lateness of the delays and lengths."""
    found = {}
    for (sooner, later), late in ways_of(outlook, min(points), max(points)).items():
        gap = later - sooner if points[0] <= points[1] else sooner - later
        found[gap] = min(late, found.get(gap, late))
    return found


def least_by_gaps(outlook, demand, gaps):
    """The least lateness of a breach, from all distances of the two points."""
    first, second = shifts_of(outlook, demand.first), shifts_of(outlook, demand.second)
    return min([late + before - first[0] + after - second[0] for gap, late in gaps.items()
                for before in first for after in second
                if gap + after - before < demand.ticks], default=None)


class BreachCase(Case):
    def shows(self, found, outlook, demand, lateness):
        """The Breach has this lateness, and a row of it that breaks the demand."""
        if lateness is None:
            self.assertIsNone(found)
            return
        self.assertIs(type(found), Breach)
        self.assertIs(found.demand, demand)
        self.assertEqual(found.lateness, lateness, (demand.first, demand.second, demand.ticks))
        self.assertIs(type(found.row), list)
        self.assertTrue(all(type(lags) is tuple for lags in found.row))
        self.assertIn(found.row, outlook)
        self.assertEqual(outlook.lateness_of(found.row), lateness)
        day = run(outlook.order, found.row)
        self.assertLess(day.moment_of(demand.second) - day.moment_of(demand.first), demand.ticks)


class TestSmallOrders(BreachCase):
    def compare(self, outlook, over):
        """For each two events, with so many ticks more than are kept in all rows."""
        reach = Reach(outlook)
        days = rows_by_lateness(outlook)
        events = all_events(outlook.order)
        for first in events:
            for second in events:
                kept = min(day[second] - day[first] for _, day in days)
                demand = Demand("x", first, second, kept + over)
                self.shows(breaker(reach, demand), outlook, demand, least_lateness(days, demand))

    def test_against_all_rows(self):
        for number, order in enumerate(many_orders("breaches", 10, 300)):
            for over in [0, 1, 2, 4]:
                self.compare(Outlook(order), over)
            self.compare(narrowed_at_random(Outlook(order), number), 1)
            self.compare(narrowed_at_random(Outlook(order), -number), 3)

    def test_orders_of_two_pieces(self):
        for ahead in [1, 2]:
            house = a_house(walk=(0, 1), pack=(1, 3), ahead=ahead)
            lineup = [a_piece("a", delay=1), a_piece("b", grid=Grid(4), delay=2)]
            outlook = Outlook(Order(house, 1, lineup))
            self.assertLess(count_rows(outlook_bounds(outlook)), 10000)
            for over in [1, 5]:
                self.compare(outlook, over)


class TestEdges(BreachCase):
    def test_kept_in_all_rows(self):
        reach = Reach(Outlook(doc_order()))
        demand = Demand("x", ("end", "talk"), ("begin", "eve"), 4)
        self.assertIsNone(breaker(reach, demand))
        self.assertIsNone(breaker(reach, Demand("x", ("end", "talk"), ("begin", "eve"), -BIG)))

    def test_kept_in_some_rows(self):
        reach = Reach(Outlook(doc_order()))
        demand = Demand("x", ("end", "talk"), ("begin", "eve"), 5)
        found = breaker(reach, demand)
        self.shows(found, reach.outlook, demand, 2)
        self.assertEqual(found.row, [(0,), (0, 6, 1, 0), (0,)])

    def test_kept_in_no_row(self):
        reach = Reach(Outlook(doc_order()))
        demand = Demand("x", ("end", "talk"), ("begin", "eve"), BIG)
        found = breaker(reach, demand)
        self.shows(found, reach.outlook, demand, 0)
        self.assertEqual(found.row, [(0,), (0, 4, 1, 0), (0,)])

    def test_an_event_and_itself(self):
        reach = Reach(Outlook(an_order()))
        for event in all_events(reach.outlook.order):
            for ticks, lateness in [(0, None), (-1, None), (-BIG, None), (1, 0), (BIG, 0)]:
                demand = Demand("x", event, event, ticks)
                self.shows(breaker(reach, demand), reach.outlook, demand, lateness)

    def test_by_a_walk_alone(self):
        reach = Reach(Outlook(doc_order()))
        for first, second, ticks in [(("enter", "talk"), ("begin", "talk"), 9),
                                     (("enter", "talk"), ("call", "talk"), -1)]:
            demand = Demand("x", first, second, ticks)
            found = breaker(reach, demand)
            self.shows(found, reach.outlook, demand, 1)
            self.assertEqual(found.row, [(0,), (0, 4, 2, 0), (0,)])

    def test_by_a_pack_alone(self):
        reach = Reach(Outlook(doc_order()))
        for first, second, ticks in [(("out", "talk"), ("end", "talk"), 0),
                                     (("out", "talk"), ("begin", "talk"), -4)]:
            demand = Demand("x", first, second, ticks)
            found = breaker(reach, demand)
            self.shows(found, reach.outlook, demand, 1)
            self.assertEqual(found.row, [(0,), (0, 4, 1, 1), (0,)])

    def test_least_pack_that_breaks(self):
        outlook = Outlook(an_order())
        reach = Reach(outlook)
        for ticks, lateness in [(-5, None), (-4, 2), (-3, 1), (-2, 0), (7, 0)]:
            demand = Demand("x", ("out", "song"), ("end", "song"), ticks)
            self.shows(breaker(reach, demand), outlook, demand, lateness)

    def test_second_event_walks_least(self):
        outlook = Outlook(an_order())
        reach = Reach(outlook)
        for ticks, lateness in [(1, None), (2, 0), (3, 0)]:
            demand = Demand("x", ("call", "talk"), ("enter", "talk"), ticks)
            self.shows(breaker(reach, demand), outlook, demand, lateness)

    def test_lateness_counts_from_the_spans_of_the_outlook(self):
        outlook = Outlook(an_order()).narrowed("talk", "length", 5, 6).narrowed("noon", "delay", 1, 1)
        reach = Reach(outlook)
        demand = Demand("x", ("end", "talk"), ("begin", "talk"), -5)
        self.shows(breaker(reach, demand), outlook, demand, 1)
        demand = Demand("x", ("end", "talk"), ("begin", "talk"), -4)
        self.shows(breaker(reach, demand), outlook, demand, 0)

    def test_empty_order(self):
        outlook = Outlook(Order(a_house(), 4, []))
        demand = Demand("x", ("opens",), ("opens",), 1)
        self.shows(breaker(Reach(outlook), demand), outlook, demand, 0)

    def test_rows_are_new(self):
        reach = Reach(Outlook(an_order()))
        tables = [list(table) for table in reach.tables]
        for first, second in [(("end", "talk"), ("opens",)), (("opens",), ("end", "talk")),
                              (("out", "talk"), ("out", "talk"))]:
            demand = Demand("x", first, second, 100)
            breaker(reach, demand).row.clear()
            self.assertEqual(len(breaker(reach, demand).row), 4)
        self.assertEqual(reach.tables, tables)

    def test_bad_events(self):
        reach = Reach(Outlook(an_order()))
        good = ("begin", "noon")
        for event in [("begin",), ("enter", "noon"), ("out", "eve"), ("call", "x"), ("end", ""),
                      ("place", "noon", 2), ("place", "talk", 0), ("opens", "noon")]:
            for ticks in [-BIG, 0, BIG]:
                self.refuses(BadEvent(event), breaker, reach, Demand("x", event, good, ticks))
                self.refuses(BadEvent(event), breaker, reach, Demand("x", good, event, ticks))
                self.refuses(BadEvent(event), breaker, reach, Demand("x", event, ("end", "y"), ticks))
                self.refuses(BadEvent(event), breaker, reach, Demand("x", event, event, ticks))


class TestWideOrders(BreachCase):
    def compare(self, order, pairs):
        """For pairs of (word, number of an item), from just broken to broken by far."""
        outlook = Outlook(order)
        reach = Reach(outlook)
        for one, other in pairs:
            first, second = (one[0], f"x{one[1]}"), (other[0], f"x{other[1]}")
            points = [self.point(order, first), self.point(order, second)]
            gaps = gaps_of(outlook, points)
            kept = margin(reach, Demand("x", first, second, 0))
            for over in [0, 1, 2, 5, 17, 40]:
                demand = Demand("x", first, second, kept + over)
                lateness = least_by_gaps(outlook, demand, gaps)
                self.assertIs(lateness is None, over == 0)
                self.shows(breaker(reach, demand), outlook, demand, lateness)

    def point(self, order, event):
        number = order.number_of(event[1])
        if event[0] == "enter":
            return order.call_of(event[1])
        return 2 * number + (1 if event[0] == "begin" else 2)

    PAIRS = [(("begin", 1), ("end", 6)), (("end", 6), ("begin", 1)), (("out", 1), ("enter", 3)),
             (("enter", 6), ("begin", 6)), (("end", 7), ("begin", 7)), (("out", 7), ("enter", 0)),
             (("enter", 0), ("out", 7)), (("begin", 4), ("begin", 3)), (("out", 4), ("enter", 4))]

    def test_steps_of_one(self):
        self.compare(wide_order([1] * 8), self.PAIRS)

    def test_mixed_steps(self):
        self.compare(wide_order([7, 3, 12, 5, 2, 30, 1, 9], breaks=(2, 5), opens=-40), self.PAIRS)

    def test_falling_steps(self):
        steps = [10 ** 39, 10 ** 20, 1000, 64, 40, 17, 12, 9]
        self.compare(wide_order(steps, minute=50), self.PAIRS)

    def test_rising_steps(self):
        steps = [2, 5, 9, 17, 40, 64, 1000, BIG]
        self.compare(wide_order(steps, least=BIG - 8), self.PAIRS)


if __name__ == "__main__":
    unittest.main()
