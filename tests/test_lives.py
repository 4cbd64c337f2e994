"""Point 56: how many pieces so many studios can take."""

import itertools
import unittest

from barbreaks.errors import BadNumber
from barbreaks.grids import Grid
from barbreaks.houses import House
from barbreaks.items import Piece
from barbreaks.jams import Group
from barbreaks.lives import Live, most_live
from barbreaks.orders import Order
from barbreaks.outlooks import Outlook
from barbreaks.runs import run
from barbreaks.stays import studio_band
from tests.helpers import Case, a_break, a_house, doc_order, many_orders, wide_order
from tests.plan_days import near_pairs, plan_orders
from tests.spot_days import days_of


def greatest(names, near, many):
    """The greatest number of pieces that can be given one of so many studios, by trying."""
    found = 0
    for studios in itertools.product([None, *range(many)], repeat=len(names)):
        given = dict(zip(names, studios))
        if all(given[one] is None or given[one] != given[other] for one, other in near):
            found = max(found, len([studio for studio in studios if studio is not None]))
    return found


class LiveCase(Case):
    def right(self, order, many, near):
        """The Live is as the document describes it; returns its count."""
        found = most_live(order, many)
        self.assertIs(type(found), Live)
        self.assertIs(type(found.names), list)
        self.assertEqual(len(found.names), many)
        names = order.piece_names()
        used = [name for chain in found.names for name in chain]
        self.assertEqual(len(used), found.count)
        self.assertEqual(len(set(used)), found.count)
        for chain in found.names:
            self.assertIs(type(chain), list)
            self.assertEqual(chain, [name for name in names if name in chain])
            for pair in itertools.combinations(chain, 2):
                self.assertNotIn(pair, near)
        self.assertEqual(self.bound(order, found.groups, many), found.count)
        return found.count

    def bound(self, order, groups, many):
        """The sum over the groups, which are in order and show that their ends are near."""
        self.assertIs(type(groups), list)
        names = order.piece_names()
        found, bound = [], 0
        for group in groups:
            self.assertIs(type(group), Group)
            pieces = names[names.index(group.first):names.index(group.last) + 1]
            self.assertNotEqual(pieces, [])
            found.extend(pieces)
            bound += min(many, len(pieces))
            if group.first == group.last:
                self.assertIsNone(group.row)
            else:
                self.assertIs(type(group.row), list)
                self.assertIn(group.row, Outlook(order))
                day = run(order, group.row)
                self.assertLess(day.moment_of(("enter", group.last)), day.moment_of(("out", group.first)))
        self.assertEqual(found, names)
        return bound


def near_in_band(order):
    names = order.piece_names()
    band = studio_band(order)
    return [(names[i], names[k]) for i, k in itertools.combinations(range(len(names)), 2)
            if band.near(i, k)]


class TestMostLive(LiveCase):
    def test_against_all_givings(self):
        counts = set()
        for order in many_orders("lives", 30, 400) + plan_orders("lives", 30, 400):
            near = near_pairs(order, days_of(order), "enter")
            names = order.piece_names()
            for many in range(4):
                count = self.right(order, many, near)
                self.assertEqual(count, greatest(names, near, many))
                counts.add((many, len(names) - count))
        self.assertLessEqual({(0, 3), (1, 0), (1, 1), (1, 2), (2, 0), (2, 1), (3, 0)}, counts)

    def test_wide_orders(self):
        for order in [wide_order([1] * 8), wide_order([1] * 8, least=1),
                      wide_order([7, 3, 12, 5, 2, 30, 1, 9], breaks=(2, 5))]:
            near = near_in_band(order)
            for many in range(7):
                self.right(order, many, near)

    def test_edges_of_many(self):
        lineup = [Piece(f"x{number}", grid=Grid(1), least=1, most=1) for number in range(8)]
        order = Order(House(1, 1, pack=(0, 8)), 0, lineup)
        near = near_in_band(order)
        self.assertEqual([self.right(order, many, near) for many in range(7)], [0, 1, 2, 3, 4, 5, 6])
        for many in [-1, 7]:
            self.refuses(BadNumber(many), most_live, order, many)

    def test_the_studios_of_the_house_do_not_matter(self):
        lineup = [Piece("a", grid=Grid(1), least=1, most=1), Piece("b", grid=Grid(1), least=1, most=1)]
        for studios in [1, 6]:
            order = Order(House(studios, 1, pack=(0, 8)), 0, lineup)
            self.assertEqual(self.right(order, 2, near_in_band(order)), 2)

    def test_without_pieces_and_with_one(self):
        for lineup in [[], [a_break("noon")]]:
            order = Order(a_house(), 0, lineup)
            for many in [0, 1, 6]:
                self.assertEqual(self.right(order, many, []), 0)
        self.assertEqual([self.right(doc_order(), many, []) for many in [0, 1, 6]], [0, 1, 1])

    def test_lists_are_new(self):
        order = wide_order([1] * 8)
        found = most_live(order, 2)
        for chain in found.names:
            chain.clear()
        found.names.clear()
        found.groups.clear()
        self.assertGreater(self.right(order, 2, near_in_band(order)), 0)


if __name__ == "__main__":
    unittest.main()
