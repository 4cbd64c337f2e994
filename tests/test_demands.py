"""Points 33 and 34: demands, their margins and fates."""

import unittest

from barbreaks.demands import Demand, fate, margin
from barbreaks.errors import BadEvent
from barbreaks.events import all_events
from barbreaks.orders import Order
from barbreaks.outlooks import Outlook
from barbreaks.reach import Reach
from barbreaks.runs import run
from tests.helpers import (Case, a_house, an_order, doc_order, many_orders, narrowed_at_random,
                           outlook_bounds, plain_events, rows_within, wide_order)

BIG = 10 ** 40 - 1
STRANGE = [("begin",), ("enter", "noon"), ("out", "eve"), ("call", "x"), ("end", ""),
           ("place", "noon", 2), ("place", "noon", -1), ("place", "talk", 0), ("opens", "noon"),
           ("near", "noon"), ("",)]


class TestDemand(Case):
    def test_attributes(self):
        demand = Demand("late", ("enter", "talk"), ("begin", "talk"), -3)
        self.assertEqual((demand.word, demand.first, demand.second, demand.ticks),
                         ("late", ("enter", "talk"), ("begin", "talk"), -3))

    def test_nothing_is_checked(self):
        demand = Demand("", ("what",), ("place", "", -4), BIG)
        self.assertEqual((demand.word, demand.first, demand.second, demand.ticks),
                         ("", ("what",), ("place", "", -4), BIG))

    def test_margin_in_a_run(self):
        order = an_order()
        for row in [[(0,), (0, 4, 1, 3), (0, 7, 1, 3), (0,)], [(1,), (2, 6, 2, 5), (1, 7, 2, 4), (0,)]]:
            day = run(order, row)
            events = plain_events(order, row)
            for first, before in events.items():
                for second, after in events.items():
                    gap = after - before
                    for ticks in [gap - 1, gap, gap + 1, 0, -BIG, BIG]:
                        demand = Demand("x", first, second, ticks)
                        self.assertEqual(demand(day), gap - ticks)
                        self.assertIs(demand.kept(day), gap >= ticks)

    def test_margin_of_zero_is_kept(self):
        day = run(doc_order(), [(0,), (0, 4, 1, 0), (0,)])
        demand = Demand("x", ("end", "talk"), ("begin", "eve"), 6)
        self.assertEqual((demand(day), demand.kept(day)), (0, True))
        demand = Demand("x", ("end", "talk"), ("begin", "eve"), 7)
        self.assertEqual((demand(day), demand.kept(day)), (-1, False))

    def test_bad_events(self):
        day = run(an_order(), [(0,), (0, 4, 1, 3), (0, 7, 1, 3), (0,)])
        good = ("begin", "noon")
        for event in STRANGE:
            for first, second in [(event, good), (good, event), (event, ("end", "y")), (event, event)]:
                demand = Demand("x", first, second, 0)
                self.refuses(BadEvent(event), demand, day)
                self.refuses(BadEvent(event), demand.kept, day)

    def test_the_order_of_the_run_tells_the_events(self):
        demand = Demand("x", ("begin", "song"), ("begin", "talk"), 0)
        self.refuses(BadEvent(("begin", "song")), demand, run(doc_order(), [(0,), (0, 4, 1, 0), (0,)]))


def plain_margins(outlook, demands):
    """For each demand its margins in all rows."""
    order = outlook.order
    days = [plain_events(order, row) for row in rows_within(outlook_bounds(outlook))]
    return [[day[demand.second] - day[demand.first] - demand.ticks for day in days]
            for demand in demands]


def demands_between(order, ticks):
    events = all_events(order)
    return [Demand("x", first, second, ticks) for first in events for second in events]


def plain_fate(margins):
    if min(margins) >= 0:
        return "always"
    return "never" if max(margins) < 0 else "maybe"


class TestMarginAndFate(Case):
    def compare(self, outlook, ticks):
        reach = Reach(outlook)
        demands = demands_between(outlook.order, ticks)
        for demand, margins in zip(demands, plain_margins(outlook, demands)):
            self.assertEqual(margin(reach, demand), min(margins))
            self.assertEqual(fate(reach, demand), plain_fate(margins))

    def test_against_all_rows(self):
        for number, order in enumerate(many_orders("demands", 14, 300)):
            for ticks in [0, 3, -3, 12]:
                self.compare(Outlook(order), ticks)
            self.compare(narrowed_at_random(Outlook(order), number), 5)

    def test_edges_of_the_fates(self):
        for order in many_orders("fates", 12, 300):
            reach = Reach(Outlook(order))
            demands = demands_between(order, 0)
            for demand, gaps in zip(demands, plain_margins(reach.outlook, demands)):
                least, greatest = min(gaps), max(gaps)
                for ticks, told in [(least, "always"), (greatest + 1, "never"),
                                    (least + 1, "never" if least == greatest else "maybe"),
                                    (greatest, "always" if least == greatest else "maybe")]:
                    asked = Demand("x", demand.first, demand.second, ticks)
                    self.assertEqual(fate(reach, asked), told)
                    self.assertEqual(margin(reach, asked), least - ticks)

    def test_examples(self):
        reach = Reach(Outlook(doc_order()))
        for first, second, ticks, least, told in [
                (("end", "talk"), ("begin", "eve"), 4, 0, "always"),
                (("end", "talk"), ("begin", "eve"), 5, -1, "maybe"),
                (("end", "talk"), ("begin", "eve"), 6, -2, "maybe"),
                (("end", "talk"), ("begin", "eve"), 7, -3, "never"),
                (("begin", "eve"), ("end", "talk"), -6, 0, "always"),
                (("begin", "eve"), ("end", "talk"), -5, -1, "maybe"),
                (("begin", "eve"), ("end", "talk"), -3, -3, "never"),
                (("enter", "talk"), ("begin", "talk"), 0, 8, "always")]:
            demand = Demand("x", first, second, ticks)
            self.assertEqual((margin(reach, demand), fate(reach, demand)), (least, told))

    def test_an_event_and_itself(self):
        reach = Reach(Outlook(an_order()))
        for event in all_events(reach.outlook.order):
            for ticks, told in [(0, "always"), (-1, "always"), (1, "never"), (BIG, "never")]:
                demand = Demand("x", event, event, ticks)
                self.assertEqual((margin(reach, demand), fate(reach, demand)), (-ticks, told))

    def test_long_numbers(self):
        reach = Reach(Outlook(wide_order([7, 3, 12, 5, 2, 30, 1, 9], least=BIG - 8)))
        demand = Demand("x", ("begin", "x3"), ("end", "x3"), BIG - 3)
        self.assertEqual((margin(reach, demand), fate(reach, demand)), (-5, "maybe"))
        demand = Demand("x", ("end", "x3"), ("begin", "x3"), -BIG)
        self.assertEqual((margin(reach, demand), fate(reach, demand)), (0, "always"))

    def test_empty_order(self):
        reach = Reach(Outlook(Order(a_house(), 4, [])))
        demand = Demand("x", ("opens",), ("opens",), 1)
        self.assertEqual((margin(reach, demand), fate(reach, demand)), (-1, "never"))

    def test_bad_events(self):
        reach = Reach(Outlook(an_order()))
        good = ("begin", "noon")
        for event in STRANGE:
            for call in [margin, fate]:
                for ticks in [-BIG, 0, BIG]:
                    self.refuses(BadEvent(event), call, reach, Demand("x", event, good, ticks))
                    self.refuses(BadEvent(event), call, reach, Demand("x", good, event, ticks))
                    self.refuses(BadEvent(event), call, reach, Demand("x", event, ("end", "y"), ticks))
                    self.refuses(BadEvent(event), call, reach, Demand("x", event, event, ticks))


if __name__ == "__main__":
    unittest.main()
