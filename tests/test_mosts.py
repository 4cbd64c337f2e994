"""Point 50: the greatest number of spots of so many kinds."""

import unittest

from barbreaks.chains import most
from barbreaks.mosts import Most, most_spots
from barbreaks.orders import Order
from barbreaks.places import spot_band
from tests.helpers import a_house, a_piece, doc_order, wide_order
from tests.spot_days import break_order, near_order, plain_gaps, plain_places, spot_orders
from tests.test_jams import JamCase


class MostCase(JamCase):
    def right(self, order, many):
        """The Most is as the document describes it; returns its count."""
        found = most_spots(order, many)
        self.assertIs(type(found), Most)
        self.assertIs(type(found.chains), list)
        self.assertIs(type(found.groups), list)
        self.assertEqual(len(found.chains), many)
        places = plain_places(order)
        used = [place for chain in found.chains for place in chain]
        self.assertEqual(len(used), found.count)
        self.assertEqual(len(set(used)), found.count)
        self.assertLessEqual(set(used), set(places))
        band = spot_band(order)
        for chain in found.chains:
            self.assertIs(type(chain), list)
            numbers = [places.index(place) for place in chain]
            for i in numbers:
                self.assertEqual([k for k in numbers if band.near(i, k)], [i])
        self.assertEqual(self.bound(order, found.groups, many), found.count)
        return found.count


def greatest(gaps, size, many, apart):
    """The greatest number of places that so many kinds can have, by trying."""
    starts = [[]]
    for thing in range(size):
        starts = [[*start, entry] for start in starts for entry in [None, *range(many)]
                  if entry is None or not any(
                      other == entry and gaps[at, thing] < apart for at, other in enumerate(start))]
    return max(size - start.count(None) for start in starts)


class TestMostSpots(MostCase):
    def test_against_all_sheets(self):
        for order in spot_orders("mosts", 30, 100, 6):
            gaps = plain_gaps(order)
            size = len(plain_places(order))
            for many in range(4 if size < 6 else 3):
                self.assertEqual(self.right(order, many),
                                 greatest(gaps, size, many, order.house.apart))

    def test_more_than_the_kinds_of_the_house(self):
        for order in [doc_order(), near_order(10), break_order(12, 12, 6, apart=20, kinds=[])]:
            for many in range(13):
                self.assertEqual(self.right(order, many), most(spot_band(order), many))

    def test_edges(self):
        for order in [Order(a_house(), 0, []), Order(a_house(), 0, [a_piece("a")])]:
            for many in [0, 1, 12]:
                self.assertEqual(self.right(order, many), 0)
        self.assertEqual(self.right(near_order(10), 0), 0)
        self.assertEqual(self.right(near_order(10), 1), 2)
        self.assertEqual(self.right(near_order(10), 2), 4)
        self.assertEqual(self.right(near_order(10), 12), 4)
        self.assertEqual(self.right(near_order(20), 3), 3)

    def test_wide_order(self):
        order = wide_order([7, 3, 12, 5, 2, 30, 1, 9], breaks=(1, 4, 6)).with_house(a_house(apart=40))
        for many in [1, 2, 3, 6]:
            self.assertEqual(self.right(order, many), most(spot_band(order), many))

    def test_lists_are_new(self):
        order = near_order(10)
        found = most_spots(order, 2)
        for chain in found.chains:
            chain.clear()
        found.chains.clear()
        found.groups.clear()
        self.assertEqual(self.right(order, 2), 4)


if __name__ == "__main__":
    unittest.main()
