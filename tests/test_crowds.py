"""Points 53 and 54: how many studios and crews the pieces need."""

import unittest

from barbreaks.chains import fewest
from barbreaks.crowds import Crowd, fewest_crews, fewest_studios
from barbreaks.grids import Grid
from barbreaks.houses import House
from barbreaks.items import Piece
from barbreaks.orders import Order
from barbreaks.outlooks import Outlook
from barbreaks.runs import run
from barbreaks.stays import crew_band, studio_band
from tests.helpers import Case, a_break, a_house, a_piece, doc_order, many_orders, wide_order
from tests.plan_days import fewest_numbers, most_taken, near_pairs, plan_orders
from tests.spot_days import days_of
from tests.test_stays import talks

BIG = 10 ** 40 - 1
CALLS = [(fewest_studios, studio_band, "enter"), (fewest_crews, crew_band, "call")]


class CrowdCase(Case):
    def shows(self, order, crowd, word):
        """The attributes of the Crowd are as the document describes them; returns its count."""
        self.assertIs(type(crowd), Crowd)
        if crowd.count < 2:
            self.assertEqual((crowd.row, crowd.moment, crowd.names), (None, None, None))
            return crowd.count
        self.assertIs(type(crowd.row), list)
        self.assertIs(type(crowd.names), list)
        self.assertIn(crowd.row, Outlook(order))
        day = run(order, crowd.row)
        found = day.inside(crowd.moment) if word == "enter" else day.bound(crowd.moment)
        self.assertEqual(crowd.names, found)
        self.assertEqual(len(found), crowd.count)
        return crowd.count


class TestCrowds(CrowdCase):
    def test_against_all_rows(self):
        counts = {"enter": set(), "call": set()}
        orders = many_orders("crowds", 40, 500) + plan_orders("crowds", 40, 500)
        for order in orders:
            days = days_of(order)
            names = order.piece_names()
            for call, _, word in CALLS:
                count = self.shows(order, call(order), word)
                self.assertEqual(count, fewest_numbers(names, near_pairs(order, days, word)))
                if count > 1:
                    # The fact of point 53.
                    self.assertEqual(count, most_taken(order, days, word))
                counts[word].add(count)
        self.assertLessEqual({0, 1, 2, 3}, counts["enter"])
        self.assertLessEqual({0, 1, 2, 3}, counts["call"])

    def test_wide_orders(self):
        for order in [wide_order([1] * 8), wide_order([7, 3, 12, 5, 2, 30, 1, 9], breaks=(2, 5)),
                      wide_order([2, 5, 9, 17, 40, 64, 1000, BIG], least=BIG - 8),
                      wide_order([1] * 8, least=1)]:
            for call, band, word in CALLS:
                self.assertEqual(self.shows(order, call(order), word), fewest(band(order)))

    def test_without_pieces(self):
        for lineup in [[], [a_break("noon")]]:
            order = Order(a_house(), 0, lineup)
            for call, _, word in CALLS:
                self.assertEqual(self.shows(order, call(order), word), 0)

    def test_one_piece(self):
        for order in [doc_order(), Order(a_house(), 0, [a_piece("a")])]:
            for call, _, word in CALLS:
                self.assertEqual(self.shows(order, call(order), word), 1)

    def test_stays_that_touch_and_that_overlap_by_one_tick(self):
        for walk, pack, studios, crews in [
                ((0, 0), (0, 0), 1, 1), ((2, 4), (0, 2), 1, 2), ((2, 4), (0, 3), 2, 2),
                ((0, 0), (0, 1), 2, 2), ((5, 5), (5, 5), 1, 2), ((4, 5), (5, 5), 2, 2)]:
            order = talks(3, walk=walk, pack=pack)
            self.assertEqual(self.shows(order, fewest_studios(order), "enter"), studios)
            self.assertEqual(self.shows(order, fewest_crews(order), "call"), crews)

    def test_bound_but_not_inside(self):
        order = talks(3, walk=(6, 8), ahead=2)
        self.assertEqual(self.shows(order, fewest_studios(order), "enter"), 1)
        crowd = fewest_crews(order)
        self.assertEqual((crowd.count, crowd.names), (2, ["one", "two"]))
        self.assertEqual(run(order, crowd.row).inside(crowd.moment), [])

    def test_crews_that_enter_after_they_were_out(self):
        # The walk is so long that each piece is over before its crew is there.
        lineup = [Piece(f"x{number}", grid=Grid(1), least=2, most=3) for number in range(3)]
        order = Order(House(1, 1, walk=(40, 41)), 0, lineup)
        self.assertEqual(self.shows(order, fewest_studios(order), "enter"), 1)
        order = Order(House(1, 1, walk=(40, 41), pack=(40, 42)), 0, lineup)
        self.assertEqual(self.shows(order, fewest_studios(order), "enter"), 3)

    def test_numbers_of_the_house_do_not_matter(self):
        for studios, crews in [(1, 1), (6, 6), (1, 6), (6, 1)]:
            house = House(studios, crews, walk=(0, 8), pack=(2, 10), ahead=2)
            order = wide_order([1] * 8).with_house(house)
            self.assertEqual(fewest_studios(order).count, fewest_studios(wide_order([1] * 8)).count)
            self.assertEqual(fewest_crews(order).count, fewest_crews(wide_order([1] * 8)).count)

    def test_more_than_six(self):
        lineup = [Piece(f"x{number}", grid=Grid(1), least=1, most=1) for number in range(8)]
        order = Order(House(1, 1, pack=(8, 8)), 0, lineup)
        self.assertEqual(self.shows(order, fewest_studios(order), "enter"), 8)
        self.assertEqual(fewest_studios(order).names, [f"x{number}" for number in range(8)])

    def test_example(self):
        small = House(1, 2, walk=(0, 3), pack=(2, 4))
        chat = Piece("chat", grid=Grid(1), least=5, most=8)
        song = Piece("song", grid=Grid(1), least=6, most=6)
        crowd = fewest_studios(Order(small, 0, [chat, song]))
        self.assertEqual((crowd.count, crowd.names), (2, ["chat", "song"]))

    def test_lists_are_new(self):
        order = talks(3, walk=(0, 0), pack=(0, 1))
        crowd = fewest_studios(order)
        crowd.row.clear()
        crowd.names.clear()
        self.assertEqual(self.shows(order, fewest_studios(order), "enter"), 2)


if __name__ == "__main__":
    unittest.main()
