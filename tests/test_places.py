"""Point 45: the places of an order and their band."""

import unittest

from barbreaks.bands import Band
from barbreaks.distances import nearest
from barbreaks.grids import Grid
from barbreaks.houses import House
from barbreaks.items import Break
from barbreaks.orders import Order
from barbreaks.outlooks import Outlook
from barbreaks.places import places, spot_band
from barbreaks.reach import Reach
from tests.helpers import Case, a_house, a_piece, an_order, doc_order, wide_order
from tests.spot_days import break_order, near_order, plain_gaps, plain_places, spot_orders

BIG = 10 ** 40 - 1


class TestPlaces(Case):
    def test_an_order(self):
        found = places(an_order())
        self.assertEqual(found, [("noon", 0), ("noon", 1), ("eve", 0), ("eve", 1), ("eve", 2)])
        self.assertIs(type(found), list)
        self.assertTrue(all(type(place) is tuple for place in found))

    def test_sizes_of_breaks(self):
        found = places(break_order(1, 12, 5))
        self.assertEqual(found[:2], [("x0", 0), ("x1", 0)])
        self.assertEqual(found[12:14], [("x1", 11), ("x2", 0)])
        self.assertEqual(len(places(break_order(12, 12, 6))), 30)

    def test_without_breaks_and_without_items(self):
        self.assertEqual(places(Order(a_house(), 0, [])), [])
        self.assertEqual(places(Order(a_house(), 0, [a_piece("a"), a_piece("b")])), [])

    def test_many_orders(self):
        for order in spot_orders("places", 20, 10 ** 9, 30):
            self.assertEqual(places(order), plain_places(order))

    def test_lists_are_new(self):
        order = an_order()
        places(order).clear()
        self.assertEqual(len(places(order)), 5)


class TestSpotBand(Case):
    def test_example(self):
        self.assertEqual(spot_band(doc_order()).ends, (1, 1, 3, 3))
        self.assertIs(type(spot_band(doc_order())), Band)

    def test_against_all_rows(self):
        for order in spot_orders("spot bands", 40, 200, 12):
            gaps = plain_gaps(order)
            for apart in sorted({1, order.house.apart, *gaps.values(), max(gaps.values(), default=0) + 1}):
                if apart >= 1:
                    self.compare(order.with_house(order.house.with_apart(apart)), gaps)

    def compare(self, order, gaps):
        band = spot_band(order)
        self.assertEqual(len(band), len(plain_places(order)))
        for (i, k), ticks in gaps.items():
            self.assertIs(band.near(i, k), i == k or ticks < order.house.apart)

    def test_exactly_apart_and_one_tick_less(self):
        self.assertEqual(spot_band(near_order(9)).ends, (1, 1, 3, 3))
        self.assertEqual(spot_band(near_order(10)).ends, (1, 2, 3, 3))
        self.assertEqual(spot_band(near_order(5)).ends, (0, 1, 2, 3))
        self.assertEqual(spot_band(near_order(6)).ends, (1, 1, 3, 3))
        self.assertEqual(spot_band(near_order(14)).ends, (1, 2, 3, 3))
        self.assertEqual(spot_band(near_order(15)).ends, (2, 3, 3, 3))
        self.assertEqual(spot_band(near_order(19)).ends, (2, 3, 3, 3))
        self.assertEqual(spot_band(near_order(20)).ends, (3, 3, 3, 3))

    def test_wide_orders(self):
        for order in [wide_order([7, 3, 12, 5, 2, 30, 1, 9], breaks=(1, 4, 6), opens=-40),
                      wide_order([100 ** k for k in range(8, 0, -1)], breaks=(0, 2, 5, 7)),
                      wide_order([2, 5, 9, 17, 40, 64, 1000, BIG], breaks=(3, 6, 7), least=BIG - 8)]:
            reach = Reach(Outlook(order))
            events = [("place", *place) for place in plain_places(order)]
            gaps = {(i, k): nearest(reach, events[i], events[k]).ticks
                    for i in range(len(events)) for k in range(i, len(events))}
            for ticks in sorted(gaps.values())[len(events)::5]:
                for apart in [ticks, ticks + 1]:
                    self.compare(order.with_house(order.house.with_apart(apart)), gaps)

    def test_the_band_is_of_the_full_outlook(self):
        order = near_order(10)
        spot_band(order)
        self.assertEqual(Reach(Outlook(order).narrowed("talk", "length", 6, 6)).span_at(4).low, 26)
        self.assertEqual(spot_band(order).ends, (1, 2, 3, 3))

    def test_edges(self):
        self.assertEqual(spot_band(Order(a_house(), 0, [])).ends, ())
        self.assertEqual(spot_band(Order(a_house(), 0, [a_piece("a")])).ends, ())
        self.assertEqual(spot_band(break_order(1, apart=BIG)).ends, (0,))
        self.assertEqual(spot_band(break_order(12, apart=7)).ends,
                         tuple(min(at + 2, 11) for at in range(12)))
        self.assertEqual(spot_band(break_order(12, 12, 6, apart=BIG)).ends, (29,) * 30)
        self.assertEqual(spot_band(break_order(12, 12, 6)).ends, tuple(range(30)))

    def test_long_numbers(self):
        lineup = [Break("a", grid=Grid(1), minute=-BIG, places=2, unit=BIG),
                  Break("b", grid=Grid(BIG), minute=BIG, places=1, unit=1)]
        self.assertEqual(spot_band(Order(House(1, 1, apart=BIG), -BIG, lineup)).ends, (0, 1, 2))
        lineup[0] = Break("a", grid=Grid(1), minute=-BIG, places=2, unit=BIG - 1)
        self.assertEqual(spot_band(Order(House(1, 1, apart=BIG), -BIG, lineup)).ends, (1, 1, 2))


class TestFact(Case):
    def test_places_between_stay_between(self):
        for order in spot_orders("between", 20, 200, 12):
            gaps = plain_gaps(order)
            for i, k in gaps:
                for between in range(i, k + 1):
                    self.assertLessEqual(gaps[i, between], gaps[i, k])
                    self.assertLessEqual(gaps[between, k], gaps[i, k])
                    self.assertGreaterEqual(gaps[i, between], 0)


if __name__ == "__main__":
    unittest.main()
