"""Point 49: jams, made by the program and by hand."""

import itertools
import unittest

from barbreaks.chains import most
from barbreaks.jams import Group, Jam, check_jam, jam_of
from barbreaks.orders import Order
from barbreaks.outlooks import Outlook
from barbreaks.places import spot_band
from tests.helpers import Case, a_house, a_piece, doc_order, plain_events, wide_order
from tests.spot_days import (break_order, near_order, plain_places, row_of, spot_orders)

BIG = 10 ** 40 - 1
N0, N1, E0, E1 = ("noon", 0), ("noon", 1), ("eve", 0), ("eve", 1)


class TestClasses(Case):
    def test_group(self):
        row = [(0,), (0, 4, 1, 0), (0,)]
        group = Group(N0, N1, row)
        row.clear()
        self.assertEqual((group.first, group.last), (N0, N1))
        self.assertEqual(group.row, [(0,), (0, 4, 1, 0), (0,)])
        self.assertIs(type(group.row), list)
        self.assertIsNone(Group(N0, N0, None).row)

    def test_jam(self):
        kinds, groups = ["cars"], [Group(N0, N0, None)]
        jam = Jam(kinds, 3, 2, groups)
        kept = list(groups)
        kinds.append("soap")
        groups.clear()
        self.assertEqual((jam.kinds, jam.asked, jam.most), (["cars"], 3, 2))
        self.assertEqual(jam.groups, kept)
        self.assertIs(type(Jam(("cars",), 3, 2, tuple(kept)).kinds), list)

    def test_nothing_is_checked(self):
        jam = Jam(["x", "x"], -1, BIG, [])
        self.assertEqual((jam.kinds, jam.asked, jam.most, jam.groups), (["x", "x"], -1, BIG, []))


class JamCase(Case):
    def shows(self, order, counts, jam, many):
        """The Jam is as the document describes it, for the `many` greatest counts."""
        house = order.house
        numbers = [counts.get(kind, 0) for kind in house.kinds]
        ranked = sorted(range(len(numbers)), key=lambda at: (-numbers[at], at))[:many]
        self.assertIs(type(jam), Jam)
        self.assertEqual(jam.kinds, [house.kinds[at] for at in sorted(ranked)])
        self.assertEqual(jam.asked, sum(numbers[at] for at in ranked))
        self.assertEqual(jam.most, most(spot_band(order), many))
        self.assertLess(jam.most, jam.asked)
        self.assertEqual(self.bound(order, jam.groups, many), jam.most)

    def bound(self, order, groups, many):
        """The sum over the groups, which are in order and show that their ends are near."""
        places = plain_places(order)
        found, bound = [], 0
        for group in groups:
            self.assertIs(type(group), Group)
            things = places[places.index(group.first):places.index(group.last) + 1]
            self.assertNotEqual(things, [])
            found.extend(things)
            bound += min(many, len(things))
            if group.first == group.last:
                self.assertIsNone(group.row)
            else:
                self.assertIs(type(group.row), list)
                self.assertIn(group.row, Outlook(order))
                self.assertLess(self.gap(order, group), order.house.apart)
        self.assertEqual(found, places)
        return bound

    def gap(self, order, group):
        day = plain_events(order, group.row)
        return day["place", *group.last] - day["place", *group.first]


def plain_many(order, counts):
    """The least j whose greatest counts are too many for the spot band, or None."""
    numbers = sorted([counts.get(kind, 0) for kind in order.house.kinds], reverse=True)
    for many in range(1, len(numbers) + 1):
        if sum(numbers[:many]) > most(spot_band(order), many):
            return many
    return None


class TestJamOf(JamCase):
    def test_many_orders(self):
        jams = 0
        for order in spot_orders("jams", 40, 100, 9):
            kinds = order.house.kinds
            for numbers in itertools.product([0, 1, 2, 4], repeat=len(kinds)):
                counts = dict(zip(kinds, numbers))
                many = plain_many(order, counts)
                jam = jam_of(order, counts)
                self.assertIs(jam is None, many is None)
                if jam is not None:
                    jams += 1
                    self.shows(order, counts, jam, many)
                    self.assertIs(check_jam(order, counts, jam), True)
        self.assertGreater(jams, 200)

    def test_example(self):
        jam = jam_of(doc_order(), {"cars": 3})
        self.shows(doc_order(), {"cars": 3}, jam, 1)
        self.assertEqual((jam.kinds, jam.asked, jam.most), (["cars"], 3, 2))

    def test_kinds_with_equal_counts(self):
        order = break_order(3, apart=100)
        for counts, kinds, asked in [({"tea": 2, "cars": 2, "soap": 2}, ["cars"], 2),
                                     ({"tea": 2, "soap": 2}, ["soap"], 2),
                                     ({"tea": 2, "cars": 1}, ["tea"], 2)]:
            jam = jam_of(order, counts)
            self.assertEqual((jam.kinds, jam.asked, jam.most), (kinds, asked, 1))
            self.shows(order, counts, jam, 1)
        order = break_order(1)
        jam = jam_of(order, {"tea": 1, "cars": 1, "soap": 1})
        self.assertEqual((jam.kinds, jam.asked, jam.most), (["cars", "soap"], 2, 1))
        jam = jam_of(order, {"tea": 1, "soap": 1})
        self.assertEqual((jam.kinds, jam.asked, jam.most), (["soap", "tea"], 2, 1))

    def test_kinds_in_the_order_of_the_house(self):
        order = break_order(4, apart=5, kinds=["cars", "soap", "tea", "ale"])
        counts = {"tea": 2, "soap": 1, "ale": 2, "cars": 0}
        jam = jam_of(order, counts)
        self.assertEqual((jam.kinds, jam.asked, jam.most), (["soap", "tea", "ale"], 5, 4))
        self.shows(order, counts, jam, 3)

    def test_without_places(self):
        for lineup in [[], [a_piece("a")]]:
            order = Order(a_house(), 0, lineup)
            self.assertIsNone(jam_of(order, {}))
            jam = jam_of(order, {"soap": 1})
            self.assertEqual((jam.kinds, jam.asked, jam.most, jam.groups), (["soap"], 1, 0, []))
            self.assertIs(check_jam(order, {"soap": 1}, jam), True)

    def test_thirty_places(self):
        order = break_order(12, 12, 6, apart=31, unit=3)
        jam = jam_of(order, {"cars": 2, "tea": 5})
        self.shows(order, {"cars": 2, "tea": 5}, jam, 1)

    def test_wide_order(self):
        order = wide_order([7, 3, 12, 5, 2, 30, 1, 9], breaks=(1, 4, 6)).with_house(a_house(apart=40))
        for counts, many in [({"cars": 4}, 1), ({"cars": 3, "soap": 4}, 1)]:
            self.assertEqual(plain_many(order, counts), many)
            self.shows(order, counts, jam_of(order, counts), many)

    def test_lists_are_new(self):
        order = doc_order()
        jam_of(order, {"cars": 3}).groups.clear()
        jam_of(order, {"cars": 3}).groups[0].row.clear()
        self.shows(order, {"cars": 3}, jam_of(order, {"cars": 3}), 1)


def right_groups():
    return [Group(N0, N1, row_of(5)), Group(E0, E1, row_of(6))]


def middle_groups(length=4):
    return [Group(N0, N0, None), Group(N1, E0, row_of(length)), Group(E1, E1, None)]


class TestCheckJam(JamCase):
    def check(self, right, groups, *, kinds=("cars",), asked=3, at_most=2, counts=None, apart=10):
        jam = Jam(list(kinds), asked, at_most, groups)
        told = {"cars": 3} if counts is None else counts
        self.assertIs(check_jam(near_order(apart), told, jam), right)

    def test_right_jams(self):
        self.check(True, right_groups())
        self.check(True, tuple(right_groups()))
        self.check(True, middle_groups(), asked=4, at_most=3, counts={"cars": 4})
        self.check(True, right_groups(), asked=60, counts={"cars": 60})

    def test_kinds_need_not_be_the_fewest(self):
        counts = {"cars": 4, "soap": 1, "tea": 0}
        self.check(True, right_groups(), kinds=["cars", "soap"], asked=5, at_most=4, counts=counts)
        self.check(True, right_groups(), kinds=["soap", "cars"], asked=5, at_most=4, counts=counts)
        self.check(True, right_groups(), kinds=["cars"], asked=4, at_most=2, counts=counts)
        self.check(True, right_groups(), kinds=["tea", "cars", "soap"], asked=5, at_most=4, counts=counts)
        self.check(False, right_groups(), kinds=["soap"], asked=1, at_most=2, counts=counts)
        self.check(True, right_groups(), kinds=["cars", "tea"], asked=5, at_most=4, counts={"cars": 5})

    def test_kinds_in_any_order(self):
        order = break_order(2, kinds=["tea", "cars", "ale"])
        singles = [Group(("x0", 0), ("x0", 0), None), Group(("x0", 1), ("x0", 1), None)]
        counts = {"cars": 2, "tea": 2, "ale": 1}
        for kinds in itertools.permutations(["tea", "cars", "ale"]):
            self.assertIs(check_jam(order, counts, Jam(kinds, 5, 2, singles)), True)
            self.assertIs(check_jam(order, counts, Jam(kinds, 5, 3, singles)), False)
        for kinds in itertools.permutations(["tea", "cars"]):
            self.assertIs(check_jam(order, counts, Jam(kinds, 4, 2, singles)), True)

    def test_most_is_less_than_asked(self):
        self.check(False, right_groups(), asked=2, counts={"cars": 2})
        self.check(False, middle_groups(), asked=3, at_most=3)
        self.check(False, middle_groups(), asked=2, at_most=3, counts={"cars": 2})

    def test_wrong_numbers(self):
        for asked in [2, 4, 0, -3, BIG]:
            self.check(False, right_groups(), asked=asked)
        for at_most in [1, 3, 0, -2, BIG, -BIG]:
            self.check(False, right_groups(), at_most=at_most)
        self.check(False, right_groups(), counts={"cars": 4})
        self.check(False, right_groups(), counts={"soap": 3})
        self.check(False, right_groups(), counts={})

    def test_wrong_kinds(self):
        self.check(False, right_groups(), kinds=["cars", "cars"], asked=6, at_most=4)
        self.check(False, right_groups(), kinds=["cars", "cars"], asked=3, at_most=4, counts={"cars": 5})
        self.check(False, right_groups(), kinds=["cars", "cars"], asked=5, at_most=4, counts={"cars": 5})
        self.check(False, right_groups(), kinds=["cars", "cars"])
        self.check(False, right_groups(), kinds=["cars", "ale"])
        self.check(False, right_groups(), kinds=["cars", ""])
        self.check(False, right_groups(), kinds=["cars", "soap", "cars"], asked=9, at_most=4,
                   counts={"cars": 8, "soap": 1})
        self.check(False, right_groups(), kinds=["ale"], asked=3)
        self.check(False, right_groups(), kinds=["cars", "ale"], asked=3, at_most=4)
        self.check(False, right_groups(), kinds=["cars", "ale"], asked=5, at_most=4, counts={"cars": 5})
        self.check(False, right_groups(), kinds=["soap"], asked=3)

    def test_no_kinds(self):
        self.check(False, right_groups(), kinds=[], asked=0, at_most=0)
        self.check(False, right_groups(), kinds=[], asked=3, at_most=0)
        self.check(False, right_groups(), kinds=[], asked=0, at_most=-1)
        self.check(False, [], kinds=[], asked=0, at_most=-1)

    def test_wrong_groups(self):
        noon, eve = right_groups()
        for groups in [[], [noon], [eve], [eve, noon], [noon, noon, eve], [noon, eve, eve],
                       [noon, Group(E0, E0, None)], [Group(N0, N0, None), eve],
                       [noon, Group(E0, E1, row_of(6)), Group(N0, N1, row_of(5))],
                       [Group(N1, N0, row_of(5)), eve], [noon, Group(N1, E0, row_of(4)), Group(E1, E1, None)],
                       [noon, Group(N1, E1, row_of(4))], [Group(N0, E1, row_of(4))],
                       [Group(N0, E0, row_of(4)), Group(E1, E1, None)]]:
            for at_most in [0, 1, 2]:
                self.check(False, groups, at_most=at_most)

    def test_groups_that_overlap_or_run_backwards(self):
        counts = {"cars": 9}
        singles = [Group(place, place, None) for place in [N0, N1, E0, E1]]
        self.check(True, singles, asked=9, at_most=4, counts=counts)
        self.check(False, [*singles, singles[3]], asked=9, at_most=5, counts=counts)
        self.check(False, [singles[0], *singles], asked=9, at_most=5, counts=counts)
        self.check(False, singles[:3], asked=9, at_most=3, counts=counts)
        self.check(False, [singles[1], singles[0], *singles[2:]], asked=9, at_most=4, counts=counts)
        self.check(False, [singles[0], singles[2], singles[1], singles[3]], asked=9, at_most=4,
                   counts=counts)
        for group in [Group(N1, N0, row_of(4)), Group(N1, N0, None)]:
            self.check(False, [singles[0], group, *singles[1:]], asked=9, at_most=4, counts=counts)
        group = Group(E0, N0, row_of(4))
        for at_most in [3, 4, 5]:
            self.check(False, [*singles[:2], group, *singles[1:]], asked=9, at_most=at_most, counts=counts)
        backwards = [singles[0], Group(E0, N1, row_of(4)), singles[3]]
        for at_most in [1, 2, 3]:
            self.check(False, backwards, asked=9, at_most=at_most, counts=counts)

    def test_strange_places(self):
        eve = Group(E0, E1, row_of(6))
        for place in [("noon", 2), ("noon", -1), ("talk", 0), ("ale", 0), ("", 0), ("noon", BIG)]:
            self.check(False, [Group(N0, place, row_of(5)), eve])
            self.check(False, [Group(place, N1, row_of(5)), eve])
            self.check(False, [Group(N0, N1, row_of(5)), eve, Group(place, place, None)], at_most=3,
                       asked=9, counts={"cars": 9})

    def test_rows_that_do_not_fit(self):
        eve = Group(E0, E1, row_of(6))
        for row in [[], [(0,)], [(0,), (0, 5, 1, 0)], [(0,), (0, 7, 1, 0), (0,)], [(1,), (0, 5, 1, 0), (0,)],
                    [(0,), (0, 5, 1), (0,)], [(0,), (0, 5, 1, 0, 0), (0,)], [(0,), (0,), (0, 5, 1, 0)],
                    [(0,), (0, 5, 0, 0), (0,)], [(0,), (0, 5, 1, 2), (0,)], [(), (0, 5, 1, 0), (0,)],
                    [(0,), (0, 5, 1, 0), (0,), (0,)], [(0,), (0, BIG, 1, 0), (0,)]]:
            self.check(False, [Group(N0, N1, row), eve])
        self.check(True, [Group(N0, N1, [(0,), (0, 4, 2, 1), (0,)]), eve])

    def test_rows_in_which_the_ends_are_far(self):
        counts = {"cars": 9}
        self.check(True, middle_groups(4), asked=9, at_most=3, counts=counts)
        self.check(False, middle_groups(5), asked=9, at_most=3, counts=counts)
        self.check(False, middle_groups(6), asked=9, at_most=3, counts=counts)
        self.check(True, middle_groups(5), asked=9, at_most=3, counts=counts, apart=11)
        self.check(False, middle_groups(4), asked=9, at_most=3, counts=counts, apart=9)
        self.check(False, right_groups(), apart=5)
        self.check(True, right_groups(), apart=6)

    def test_none_in_the_wrong_place(self):
        noon, eve = right_groups()
        self.check(False, [noon, Group(E0, E1, None)])
        self.check(False, [Group(N0, N1, None), eve])
        counts = {"cars": 9}
        for at, place in [(0, N0), (2, E1)]:
            groups = middle_groups()
            groups[at] = Group(place, place, row_of(4))
            self.check(False, groups, asked=9, at_most=3, counts=counts)

    def test_a_jam_of_another_order(self):
        jam = jam_of(doc_order(), {"cars": 3})
        self.assertIs(check_jam(near_order(10), {"cars": 3}, jam), True)
        self.assertIs(check_jam(near_order(5), {"cars": 3}, jam), False)
        self.assertIs(check_jam(break_order(2), {"cars": 3}, jam), False)
        self.assertIs(check_jam(Order(a_house(), 0, []), {"cars": 3}, jam), False)

    def test_nothing_changes(self):
        jam = Jam(["cars"], 3, 2, right_groups())
        kept = (list(jam.kinds), list(jam.groups), [list(group.row) for group in jam.groups])
        check_jam(near_order(10), {"cars": 3}, jam)
        self.assertEqual((jam.kinds, jam.groups, [group.row for group in jam.groups]), kept)


if __name__ == "__main__":
    unittest.main()
