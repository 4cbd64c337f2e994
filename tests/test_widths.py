"""Point 51: how far apart the spots of one kind can be kept."""

import itertools
import unittest

from barbreaks.errors import Jammed
from barbreaks.grids import Grid
from barbreaks.houses import House
from barbreaks.items import Break
from barbreaks.jams import Jam, check_jam, jam_of
from barbreaks.orders import Order
from barbreaks.spots import lay_spots
from barbreaks.widths import Width, widest
from tests.helpers import Case, a_house, a_piece, doc_order, wide_order
from tests.spot_days import (break_order, holds, near_order, plain_gaps, plain_places, sheet_exists,
                             spot_orders)

BIG = 10 ** 40 - 1


def with_apart(order, apart):
    return order.with_house(order.house.with_apart(apart))


class WidthCase(Case):
    def widest(self, order, counts):
        """The greatest distance, after all of the Width was looked at."""
        found = widest(order, counts)
        self.assertIs(type(found), Width)
        told = {kind: counts.get(kind, 0) for kind in order.house.kinds}
        self.assertEqual(found.sheet.counts(), told)
        if found.apart is None:
            self.assertIsNone(found.jam)
            self.assertIs(found.sheet.order, order)
            self.assertLessEqual(max(told.values(), default=0), 1)
            return None
        self.assertEqual(found.sheet.order.house.apart, found.apart)
        self.same_but_apart(found.sheet.order, order)
        self.assertIs(type(found.jam), Jam)
        self.assertIs(check_jam(with_apart(order, found.apart + 1), counts, found.jam), True)
        self.assertIs(check_jam(with_apart(order, found.apart), counts, found.jam), False)
        right = jam_of(with_apart(order, found.apart + 1), counts)
        self.assertEqual((found.jam.kinds, found.jam.asked, found.jam.most),
                         (right.kinds, right.asked, right.most))
        return found.apart

    def same_but_apart(self, order, other):
        self.assertEqual(order.lineup, other.lineup)
        self.assertEqual(order.opens, other.opens)
        for name in ["studios", "crews", "kinds", "walk", "pack", "ahead"]:
            self.assertEqual(getattr(order.house, name), getattr(other.house, name))

    def jams(self, order, counts):
        """Not even distance 1 will do, and the jam shows it."""
        with self.assertRaises(Jammed) as caught:
            widest(order, counts)
        jam = caught.exception.jam
        self.assertIs(check_jam(with_apart(order, 1), counts, jam), True)
        right = jam_of(with_apart(order, 1), counts)
        self.assertEqual((jam.kinds, jam.asked, jam.most), (right.kinds, right.asked, right.most))
        self.assertTrue(all(group.row is None for group in jam.groups))


class TestWidest(WidthCase):
    def test_against_all_distances(self):
        for order in spot_orders("widths", 25, 60, 6):
            gaps = plain_gaps(order)
            size = len(plain_places(order))
            for numbers in itertools.product([0, 1, 2, 3], repeat=min(2, len(order.house.kinds))):
                counts = dict(zip(order.house.kinds, numbers))
                self.compare(order, counts, gaps, size, numbers)

    def compare(self, order, counts, gaps, size, numbers):
        far = max(gaps.values(), default=0) + 1
        will_do = [apart for apart in range(1, far + 1) if sheet_exists(gaps, size, numbers, apart)]
        if not will_do:
            self.jams(order, counts)
        elif will_do[-1] == far:
            self.assertIsNone(self.widest(order, counts))
        else:
            self.assertEqual(self.widest(order, counts), will_do[-1])
            self.assertTrue(holds(order, widest(order, counts).sheet, will_do[-1]))

    def test_distance_of_the_house_does_not_matter(self):
        for apart in [1, 14, 15, 100, BIG]:
            order = with_apart(doc_order(), apart)
            self.assertEqual(self.widest(order, {"cars": 2}), 25)
            self.assertEqual(self.widest(order, {"cars": 3}), 5)
            self.assertEqual(self.widest(order, {"cars": 4}), 5)
            self.assertIsNone(self.widest(order, {"cars": 1}))
            self.assertIsNone(self.widest(order, {}))
            self.jams(order, {"cars": 5})

    def test_distances_one_by_one(self):
        order = near_order(1)
        for counts in [{"cars": 2}, {"cars": 2, "soap": 2}, {"cars": 3}, {"tea": 2, "soap": 1}]:
            apart = 1
            while self.will_do(with_apart(order, apart + 1), counts):
                apart += 1
            self.assertEqual(self.widest(order, counts), apart)

    def will_do(self, order, counts):
        try:
            lay_spots(order, counts)
        except Jammed:
            return False
        return True

    def test_the_nearest_row_counts(self):
        order = near_order(1)
        self.assertEqual(self.widest(order, {"cars": 2}), 19)
        self.assertEqual(self.widest(order, {"cars": 2, "tea": 2}), 14)
        self.assertEqual(self.widest(order, {"cars": 3}), 5)

    def test_every_distance(self):
        order = break_order(3, 1)
        for counts in [{}, {"cars": 1}, {"tea": 1, "soap": 1}, {"cars": 1, "soap": 1, "tea": 1}]:
            self.assertIsNone(self.widest(order, counts))
        self.assertIsNone(self.widest(break_order(1), {"tea": 1}))
        for lineup in [[], [a_piece("a")]]:
            self.assertIsNone(self.widest(Order(a_house(), 0, lineup), {"cars": 0}))

    def test_not_even_one(self):
        self.jams(break_order(3, 1), {"cars": 5})
        self.jams(break_order(3, 1), {"cars": 2, "soap": 2, "tea": 1})
        self.jams(break_order(1), {"cars": 2})
        self.jams(break_order(1), {"cars": 1, "tea": 1})
        self.jams(Order(a_house(), 0, []), {"soap": 1})
        self.jams(Order(a_house(), 0, [a_piece("a")]), {"soap": 60})

    def test_just_one(self):
        order = break_order(3, unit=1)
        self.assertEqual(self.widest(order, {"cars": 3}), 1)
        self.assertEqual(self.widest(order, {"cars": 2}), 2)

    def test_long_numbers(self):
        lineup = [Break("a", grid=Grid(1), minute=-BIG, places=2, unit=BIG),
                  Break("b", grid=Grid(BIG), minute=BIG, places=1, unit=1)]
        order = Order(House(1, 1, ["cars"]), -BIG, lineup)
        self.assertEqual(self.widest(order, {"cars": 3}), BIG)
        self.assertEqual(self.widest(order, {"cars": 2}), 2 * BIG)

    def test_thirty_places(self):
        order = break_order(12, 12, 6, unit=3)
        self.assertEqual(self.widest(order, {"cars": 30}), 3)
        self.assertEqual(self.widest(order, {"cars": 10, "tea": 10, "soap": 10}), 9)

    def test_wide_order(self):
        order = wide_order([7, 3, 12, 5, 2, 30, 1, 9], breaks=(1, 4, 6)).with_house(a_house())
        for counts in [{"cars": 6}, {"cars": 3, "soap": 3}, {"soap": 2}]:
            apart = self.widest(order, counts)
            self.assertTrue(self.will_do(with_apart(order, apart), counts))
            self.assertFalse(self.will_do(with_apart(order, apart + 1), counts))


if __name__ == "__main__":
    unittest.main()
