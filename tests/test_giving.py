"""Point 55: giving studios and crews to the pieces."""

import itertools
import unittest

from barbreaks.crowds import fewest_crews, fewest_studios
from barbreaks.giving import give_crews, give_studios
from barbreaks.orders import Order
from barbreaks.stays import crew_band, studio_band
from tests.helpers import Case, a_break, a_house, doc_order, many_orders, wide_order
from tests.plan_days import near_pairs, plan_orders
from tests.spot_days import days_of

CALLS = [(give_studios, fewest_studios, "enter"), (give_crews, fewest_crews, "call")]


class TestGiving(Case):
    def right(self, order, given, count):
        """The dict has all pieces in their order, and all numbers below the count."""
        self.assertIs(type(given), dict)
        self.assertEqual(list(given), order.piece_names())
        self.assertEqual(sorted(set(given.values())), list(range(count)))

    def test_against_all_rows(self):
        counts = set()
        for order in many_orders("giving", 40, 500) + plan_orders("giving", 40, 500):
            days = days_of(order)
            for call, fewest, word in CALLS:
                given = call(order)
                self.right(order, given, fewest(order).count)
                counts.add(fewest(order).count)
                for one, other in near_pairs(order, days, word):
                    self.assertNotEqual(given[one], given[other])
        self.assertLessEqual({0, 1, 2, 3}, counts)

    def test_wide_orders(self):
        for order in [wide_order([1] * 8), wide_order([7, 3, 12, 5, 2, 30, 1, 9], breaks=(2, 5)),
                      wide_order([1] * 8, least=1)]:
            names = order.piece_names()
            for call, fewest, band in [(give_studios, fewest_studios, studio_band(order)),
                                       (give_crews, fewest_crews, crew_band(order))]:
                given = call(order)
                self.right(order, given, fewest(order).count)
                for i, k in itertools.combinations(range(len(names)), 2):
                    if band.near(i, k):
                        self.assertNotEqual(given[names[i]], given[names[k]])

    def test_without_pieces_and_with_one(self):
        for lineup in [[], [a_break("noon")]]:
            order = Order(a_house(), 0, lineup)
            self.assertEqual((give_studios(order), give_crews(order)), ({}, {}))
        self.assertEqual(give_studios(doc_order()), {"talk": 0})
        self.assertEqual(give_crews(doc_order()), {"talk": 0})

    def test_dicts_are_new(self):
        order = doc_order()
        give_studios(order).clear()
        give_crews(order).clear()
        self.assertEqual((give_studios(order), give_crews(order)), ({"talk": 0}, {"talk": 0}))


if __name__ == "__main__":
    unittest.main()
