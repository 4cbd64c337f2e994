"""Points 47 and 48: counts of kinds, and sheets that hold in all rows."""

import itertools
import unittest

from barbreaks.errors import BadNumber, Jammed, Unknown
from barbreaks.jams import check_jam, jam_of
from barbreaks.layings import fits
from barbreaks.mosts import most_spots
from barbreaks.orders import Order
from barbreaks.places import spot_band
from barbreaks.sheets import Sheet
from barbreaks.spots import lay_spots
from barbreaks.widths import widest
from tests.helpers import Case, a_house, a_piece, doc_order, wide_order
from tests.spot_days import (break_order, days_of, holds, near_order, plain_gaps, plain_places,
                             sheet_exists, spot_orders)

BIG = 10 ** 40 - 1


def full_counts(order, counts):
    return {kind: counts.get(kind, 0) for kind in order.house.kinds}


class SpotCase(Case):
    def compare(self, order, counts, right):
        """lay_spots tells whether a sheet exists, and returns one that holds."""
        self.assertIs(jam_of(order, counts) is None, right)
        if not right:
            with self.assertRaises(Jammed) as caught:
                lay_spots(order, counts)
            self.assertIs(check_jam(order, counts, caught.exception.jam), True)
            return
        sheet = lay_spots(order, counts)
        self.assertIs(type(sheet), Sheet)
        self.assertIs(sheet.order, order)
        self.assertEqual(sheet.counts(), full_counts(order, counts))


class TestLaySpots(SpotCase):
    def test_against_all_sheets(self):
        for number, order in enumerate(spot_orders("spots", 30, 100, 6)):
            gaps = plain_gaps(order)
            size = len(plain_places(order))
            kinds = order.house.kinds[:2]
            for numbers in itertools.product(range(min(size, 3) + 2), repeat=len(kinds)):
                counts = dict(zip(kinds, numbers))
                right = sheet_exists(gaps, size, numbers, order.house.apart)
                self.compare(order, counts, right)
                self.assertIs(fits(spot_band(order), list(numbers)), right)
                if right:
                    self.assertTrue(holds(order, lay_spots(order, counts), order.house.apart), number)

    def test_all_rows_keep_the_distance(self):
        for apart, right in [(9, True), (10, True), (15, True), (19, True), (20, False)]:
            order = near_order(apart)
            counts = {"tea": 1, "cars": 2}
            self.compare(order, counts, right)
            if right:
                spots = list(lay_spots(order, counts))
                cars = [("place", name, place) for name, place, kind in spots if kind == "cars"]
                for day in days_of(order):
                    self.assertGreaterEqual(day[cars[1]] - day[cars[0]], apart)

    def test_thirty_places(self):
        order = break_order(12, 12, 6, apart=15, unit=3)
        self.compare(order, {"cars": 6, "soap": 6, "tea": 6}, True)
        self.compare(order, {"cars": 7}, False)

    def test_wide_order(self):
        order = wide_order([7, 3, 12, 5, 2, 30, 1, 9], breaks=(1, 4, 6))
        order = order.with_house(a_house(apart=20))
        self.compare(order, {"cars": 3, "soap": 3}, True)
        self.assertTrue(fits(spot_band(order), [3, 3]))
        self.compare(order, {"cars": 4}, False)

    def test_edges(self):
        for lineup in [[], [a_piece("a")]]:
            order = Order(a_house(), 0, lineup)
            self.compare(order, {}, True)
            self.compare(order, {"cars": 0}, True)
            self.compare(order, {"soap": 1}, False)
        self.compare(break_order(2, kinds=[]), {}, True)
        self.compare(break_order(1), {"tea": 1}, True)
        self.compare(break_order(1), {"tea": 1, "cars": 1}, False)
        self.compare(break_order(2), {"cars": 60, "soap": 0, "tea": 60}, False)
        self.assertEqual(list(lay_spots(break_order(2), {})), [])

    def test_sixty_of_a_kind(self):
        self.compare(break_order(12, 12, 6), {"cars": 30}, True)
        self.compare(break_order(12, 12, 6), {"cars": 31}, False)
        self.compare(break_order(12, 12, 6), {"cars": 60}, False)

    def test_example(self):
        self.compare(doc_order(), {"cars": 2}, True)
        self.compare(doc_order(), {"cars": 3}, False)

    def test_counts_stay(self):
        for numbers in [{"cars": 1, "soap": 1}, {"tea": 9}]:
            kept = dict(numbers)
            jam_of(near_order(10), numbers)
            self.assertEqual(numbers, kept)
            self.assertIs(jam_of(near_order(10), numbers) is None, "tea" not in numbers)
        numbers = {"cars": 1}
        lay_spots(near_order(10), numbers)
        widest(near_order(10), numbers)
        self.assertEqual(numbers, {"cars": 1})


class TestCounts(Case):
    CALLS = [lay_spots, jam_of, widest, lambda order, counts: check_jam(order, counts, None)]

    def test_strange_kinds_come_first(self):
        for kind in ["ale", "", "noon"]:
            for counts in [{kind: 1}, {"cars": 61, kind: 0}, {kind: -1, "gin": 5}, {"cars": -1, kind: 61}]:
                for call in self.CALLS:
                    self.refuses(Unknown(kind), call, near_order(10), counts)
        for call in self.CALLS:
            self.refuses(Unknown("cars"), call, break_order(1, kinds=[]), {"cars": 0})

    def test_counts_in_the_order_of_the_dict(self):
        for counts, bad in [({"cars": -1}, -1), ({"tea": 61}, 61), ({"tea": 61, "cars": -1}, 61),
                            ({"soap": 60, "tea": -BIG, "cars": 61}, -BIG), ({"soap": BIG}, BIG)]:
            for call in self.CALLS:
                self.refuses(BadNumber(bad), call, near_order(10), counts)

    def test_missing_kinds_count_zero(self):
        order = near_order(10)
        self.assertEqual(lay_spots(order, {"soap": 1}).counts(), {"cars": 0, "soap": 1, "tea": 0})
        self.assertEqual(jam_of(order, {"tea": 3}).kinds, ["tea"])

    def test_many_is_checked(self):
        for many in [-1, 13, 60, BIG, -BIG]:
            for order in [near_order(10), Order(a_house(), 0, [])]:
                self.refuses(BadNumber(many), most_spots, order, many)


if __name__ == "__main__":
    unittest.main()
