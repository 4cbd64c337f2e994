"""Point 60: what of a plan is not kept in one row."""

import random
import unittest

from barbreaks.errors import BadRow, BadSize
from barbreaks.faults import faults
from barbreaks.grids import Grid
from barbreaks.houses import House
from barbreaks.items import Break, Piece
from barbreaks.orders import Order
from barbreaks.outlooks import Outlook
from barbreaks.plans import Plan
from tests.helpers import Case, a_house, plain_events
from tests.plan_days import demand_tuples, late_days, margin_in, plan_orders, some_plan


def tight_order():
    """Two pieces behind a break; two long lags make much of it go wrong."""
    house = House(1, 1, ["cars"], walk=(0, 3), pack=(0, 2), apart=8)
    lineup = [Break("gap", grid=Grid(1), minute=0, places=2, unit=4, delay=2),
              Piece("one", grid=Grid(1), least=2, most=4), Piece("two", grid=Grid(4), least=2, most=2)]
    return Order(house, 0, lineup)


def tight_plan():
    return Plan(tight_order(), studios={"one": 0, "two": 0}, crews={"one": 0, "two": 0},
                spots={"gap": ["cars", "cars"]})


class TestFaults(Case):
    def test_against_all_rows(self):
        rng = random.Random("faults")
        words = set()
        for order in plan_orders("faults", 60, 100):
            plan = some_plan(order, rng)
            demands = demand_tuples(plan)
            for _, row, day in late_days(Outlook(order)):
                due = [(word, first, second, margin_in(day, (word, first, second, ticks)))
                       for word, first, second, ticks in demands
                       if margin_in(day, (word, first, second, ticks)) < 0]
                self.assertEqual(faults(plan, row), due)
                words.update(fault[0] for fault in due)
        self.assertEqual(words, {"swallowed", "late", "busy", "meet", "near"})

    def test_words_and_margins(self):
        plan = tight_plan()
        row = [(2,), (0, 4, 3, 2), (0, 2, 0, 0)]
        self.assertEqual(plain_events(plan.order, row)["out", "one"], 16)
        self.assertEqual(faults(plan, row), [
            ("swallowed", ("begin", "gap"), ("opens",), -2),
            ("busy", ("out", "one"), ("call", "two"), -6),
            ("meet", ("out", "one"), ("enter", "two"), -6),
            ("near", ("place", "gap", 0), ("place", "gap", 1), -4)])

    def test_a_margin_of_zero_is_no_fault(self):
        row = [(0,), (0, 2, 0, 0), (0, 2, 3, 0)]
        self.assertEqual([fault[0] for fault in faults(tight_plan(), row)], ["busy", "near"])
        self.assertEqual(faults(tight_plan(), row)[0][3], -2)
        row = [(0,), (0, 2, 0, 0), (0, 2, 2, 0)]
        self.assertEqual([fault[0] for fault in faults(tight_plan(), row)], ["busy", "near"])
        row = [(0,), (0, 2, 0, 0), (0, 2, 1, 0)]
        self.assertEqual([fault[0] for fault in faults(tight_plan(), row)], ["busy", "meet", "near"])

    def test_without_items(self):
        self.assertEqual(faults(Plan(Order(a_house(), 0, []), studios={}, crews={}), []), [])

    def test_rows_that_do_not_fit(self):
        plan = tight_plan()
        self.refuses(BadSize(0), faults, plan, [])
        self.refuses(BadSize(2), faults, plan, [(9,), (0, 2, 0, 0)])
        self.refuses(BadRow("gap"), faults, plan, [(3,), (0, 9, 0, 0), (0, 2, 0, 0)])
        self.refuses(BadRow("one"), faults, plan, [(2,), (0, 2, 0), (0, 2, 9, 0)])
        self.refuses(BadRow("two"), faults, plan, [(2,), (0, 2, 0, 0), (0, 2, 0, 3)])

    def test_what_is_passed_stays(self):
        row = [(2,), (0, 4, 3, 2), (0, 2, 0, 0)]
        faults(tight_plan(), row).clear()
        self.assertEqual(row, [(2,), (0, 4, 3, 2), (0, 2, 0, 0)])
        self.assertEqual(faults(tight_plan(), tuple(row)), faults(tight_plan(), row))


if __name__ == "__main__":
    unittest.main()
