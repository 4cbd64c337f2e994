"""Point 52: the bands of pieces that need studios or crews of their own."""

import unittest

from barbreaks.bands import Band
from barbreaks.distances import nearest
from barbreaks.grids import Grid
from barbreaks.houses import House
from barbreaks.items import Break, Piece
from barbreaks.orders import Order
from barbreaks.outlooks import Outlook
from barbreaks.reach import Reach
from barbreaks.stays import crew_band, studio_band
from tests.helpers import Case, a_break, a_house, doc_order, many_orders, wide_order
from tests.spot_days import days_of

BIG = 10 ** 40 - 1


def plain_ends(order, word):
    """For each two pieces whether the word of the later one can come before the earlier is out."""
    names = order.piece_names()
    days = days_of(order)
    return {(i, k): any(day[word, names[k]] < day["out", names[i]] for day in days)
            for i in range(len(names)) for k in range(i + 1, len(names))}


def talks(gap, *, walk=(0, 0), pack=(0, 0), ahead=1, delay=0):
    """Two pieces with a break of so many ticks between them; they last from 4 to 6 ticks."""
    house = House(1, 1, walk=walk, pack=pack, ahead=ahead)
    lineup = [Piece("one", grid=Grid(1), least=4, most=6),
              Break("gap", grid=Grid(1), minute=0, places=1, unit=gap),
              Piece("two", grid=Grid(1), least=4, most=6, delay=delay)]
    return Order(house, 0, lineup)


class TestBands(Case):
    def test_against_all_rows(self):
        for order in many_orders("stays", 60, 700):
            for call, word in [(studio_band, "enter"), (crew_band, "call")]:
                band = call(order)
                self.assertIs(type(band), Band)
                self.assertEqual(len(band), len(order.piece_names()))
                for (i, k), right in plain_ends(order, word).items():
                    self.assertIs(band.near(i, k), right)

    def test_wide_orders(self):
        for order in [wide_order([1] * 8), wide_order([7, 3, 12, 5, 2, 30, 1, 9], breaks=(2, 5)),
                      wide_order([2, 5, 9, 17, 40, 64, 1000, BIG], least=BIG - 8),
                      wide_order([100 ** k for k in range(8, 0, -1)], breaks=(1, 3, 5), minute=50)]:
            reach = Reach(Outlook(order))
            names = order.piece_names()
            for call, word in [(studio_band, "enter"), (crew_band, "call")]:
                band = call(order)
                for i, name in enumerate(names):
                    for k in range(i + 1, len(names)):
                        gap = nearest(reach, ("out", name), (word, names[k])).ticks
                        self.assertIs(band.near(i, k), gap < 0)

    def test_stays_that_touch_and_that_overlap_by_one_tick(self):
        # The crew of two is called at the begin of gap, the end of one; it enters after its walk.
        for walk, pack, studios, crews in [
                ((0, 0), (0, 0), (0, 1), (0, 1)), ((2, 4), (0, 2), (0, 1), (1, 1)),
                ((2, 4), (0, 3), (1, 1), (1, 1)), ((1, 1), (0, 1), (0, 1), (1, 1)),
                ((0, 0), (0, 1), (1, 1), (1, 1)), ((5, 5), (5, 5), (0, 1), (1, 1)),
                ((4, 5), (5, 5), (1, 1), (1, 1))]:
            order = talks(3, walk=walk, pack=pack)
            self.assertEqual(studio_band(order).ends, studios, (walk, pack))
            self.assertEqual(crew_band(order).ends, crews, (walk, pack))

    def test_crews_that_are_called_far_ahead(self):
        order = talks(3, walk=(4, 4), ahead=2)
        self.assertEqual((studio_band(order).ends, crew_band(order).ends), ((1, 1), (1, 1)))
        order = talks(3, walk=(6, 8), ahead=2)
        self.assertEqual((studio_band(order).ends, crew_band(order).ends), ((0, 1), (1, 1)))
        order = talks(3, walk=(5, 8), ahead=2)
        self.assertEqual((studio_band(order).ends, crew_band(order).ends), ((1, 1), (1, 1)))

    def test_edges(self):
        for lineup in [[], [a_break("noon")]]:
            order = Order(a_house(), 0, lineup)
            self.assertEqual((studio_band(order).ends, crew_band(order).ends), ((), ()))
        self.assertEqual(studio_band(doc_order()).ends, (0,))
        self.assertEqual(crew_band(doc_order()).ends, (0,))

    def test_eight_pieces(self):
        lineup = [Piece(f"x{number}", grid=Grid(1), least=1, most=1) for number in range(8)]
        order = Order(House(6, 6, pack=(0, 3)), 0, lineup)
        self.assertEqual(studio_band(order).ends, (4, 5, 6, 7, 7, 7, 7, 7))
        self.assertEqual(crew_band(order).ends, (4, 5, 6, 7, 7, 7, 7, 7))
        order = Order(House(6, 6, walk=(1, 1), pack=(0, 3)), 0, lineup)
        self.assertEqual(studio_band(order).ends, (3, 4, 5, 6, 7, 7, 7, 7))
        order = Order(House(6, 6, pack=(0, 3), ahead=3), 0, lineup)
        self.assertEqual(crew_band(order).ends, (6, 7, 7, 7, 7, 7, 7, 7))


class TestFacts(Case):
    def test_near_for_studios_is_near_for_crews(self):
        for order in many_orders("stays", 60, 10 ** 9):
            for one, other in zip(studio_band(order).ends, crew_band(order).ends):
                self.assertLessEqual(one, other)

    def test_the_order_of_the_lineup(self):
        for order in many_orders("lined up", 30, 200):
            names = order.piece_names()
            house = order.house
            for day in days_of(order):
                for word, ticks in [("call", 0), ("enter", house.walk.low), ("out", house.pack.high)]:
                    # With walks least and packs greatest the moments follow from those of the points.
                    base = {"call": "call", "enter": "call", "out": "end"}[word]
                    moments = [day[base, name] + ticks for name in names]
                    self.assertEqual(moments, sorted(moments))


if __name__ == "__main__":
    unittest.main()
