"""Point 36: least distances and breaches by trying all rows."""

import unittest

from barbreaks.breaches import breaker
from barbreaks.demands import Demand
from barbreaks.distances import nearest
from barbreaks.errors import BadEvent, TooMany
from barbreaks.events import all_events
from barbreaks.grids import Grid
from barbreaks.houses import House
from barbreaks.items import Break, Piece
from barbreaks.orders import Order
from barbreaks.outlooks import Outlook
from barbreaks.reach import Reach
from barbreaks.trying import plain_breaker, plain_nearest
from tests.helpers import Case, a_house, an_order, doc_order, many_orders, narrowed_at_random

BIG = 10 ** 40 - 1


def order_of_rows(*delays, length=0):
    """An order whose outlook has the product of the delays + 1 and of length + 1 as rows."""
    lineup = [Break(f"x{number}", grid=Grid(3), minute=0, places=1, unit=1, delay=delay)
              for number, delay in enumerate(delays)]
    lineup.append(Piece("y", grid=Grid(1), least=2, most=2 + length))
    return Order(House(1, 1), 0, lineup)


class TestAgainstTheOtherWay(Case):
    def test_all_pairs_of_events(self):
        for number, order in enumerate(many_orders("trying", 8, 60)):
            for outlook in [Outlook(order), narrowed_at_random(Outlook(order), number)]:
                reach = Reach(outlook)
                events = all_events(order)
                for first in events:
                    for second in events:
                        self.compare(reach, first, second)

    def compare(self, reach, first, second):
        outlook = reach.outlook
        ticks = nearest(reach, first, second).ticks
        self.assertEqual(plain_nearest(outlook, first, second), ticks)
        self.assertIsNone(plain_breaker(outlook, Demand("x", first, second, ticks)))
        demand = Demand("x", first, second, ticks + 2)
        self.assertEqual(plain_breaker(outlook, demand), breaker(reach, demand).lateness)

    def test_examples(self):
        outlook = Outlook(doc_order())
        self.assertEqual(plain_nearest(outlook, ("end", "talk"), ("begin", "eve")), 4)
        self.assertEqual(plain_nearest(outlook, ("enter", "talk"), ("begin", "talk")), 8)
        for ticks, lateness in [(4, None), (5, 2), (6, 1), (7, 0), (-BIG, None), (BIG, 0)]:
            demand = Demand("x", ("end", "talk"), ("begin", "eve"), ticks)
            self.assertEqual(plain_breaker(outlook, demand), lateness)

    def test_an_event_and_itself(self):
        outlook = Outlook(doc_order())
        event = ("out", "talk")
        self.assertEqual(plain_nearest(outlook, event, event), 0)
        self.assertIsNone(plain_breaker(outlook, Demand("x", event, event, 0)))
        self.assertEqual(plain_breaker(outlook, Demand("x", event, event, 1)), 0)

    def test_empty_order(self):
        outlook = Outlook(Order(a_house(), 4, []))
        self.assertEqual(plain_nearest(outlook, ("opens",), ("opens",)), 0)
        self.assertEqual(plain_breaker(outlook, Demand("x", ("opens",), ("opens",), 1)), 0)
        self.assertIsNone(plain_breaker(outlook, Demand("x", ("opens",), ("opens",), 0)))


class TestChecks(Case):
    def test_2000_rows(self):
        outlook = Outlook(order_of_rows(4, 4, 4, 3, length=3))
        self.assertEqual(outlook.row_count(), 2000)
        first, second = ("begin", "x0"), ("begin", "y")
        self.assertEqual(plain_nearest(outlook, first, second), 10)
        self.assertEqual(plain_breaker(outlook, Demand("x", ("end", "y"), first, -14)), 3)

    def test_more_than_2000_rows(self):
        for delays, length in [((2, 2, 2, 2, 4, 4), 0), ((8, 8, 8, 8, 8, 8), 8)]:
            outlook = Outlook(order_of_rows(*delays, length=length))
            self.assertGreater(outlook.row_count(), 2000)
            first, second = ("begin", "x0"), ("begin", "y")
            self.refuses(TooMany("rows", 2000), plain_nearest, outlook, first, second)
            self.refuses(TooMany("rows", 2000), plain_nearest, outlook, first, first)
            for ticks in [-BIG, 0, BIG]:
                demand = Demand("x", first, second, ticks)
                self.refuses(TooMany("rows", 2000), plain_breaker, outlook, demand)

    def test_2001_rows(self):
        lineup = [Piece("y", grid=Grid(1), least=2, most=4, delay=2),
                  Piece("z", grid=Grid(1), least=2, most=2, delay=0)]
        counts = {}
        for walk in range(9):
            for pack in range(9):
                house = House(1, 1, walk=(0, walk), pack=(0, pack))
                counts[9 * (walk + 1) ** 2 * (pack + 1) ** 2] = Outlook(Order(house, 0, lineup))
        self.assertEqual([count for count in sorted(counts) if 1700 < count < 2400],
                         [1764, 2025, 2304])
        first, second = ("out", "y"), ("enter", "z")
        self.assertEqual(plain_nearest(counts[1764], first, second),
                         nearest(Reach(counts[1764]), first, second).ticks)
        self.refuses(TooMany("rows", 2000), plain_nearest, counts[2025], first, second)

    def test_bad_events(self):
        for outlook in [Outlook(an_order()), Outlook(order_of_rows(8, 8, 8, 8, 8))]:
            good = ("opens",)
            for event in [("begin",), ("enter", "x0"), ("out", "eve"), ("call", "x"), ("end", ""),
                          ("place", "noon", 2), ("place", "y", 0), ("opens", "noon")]:
                for first, second in [(event, good), (good, event), (event, ("end", "q")), (event, event)]:
                    self.refuses(BadEvent(event), plain_nearest, outlook, first, second)
                    for ticks in [-BIG, BIG]:
                        self.refuses(BadEvent(event), plain_breaker, outlook,
                                     Demand("x", first, second, ticks))


if __name__ == "__main__":
    unittest.main()
