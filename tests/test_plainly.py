"""Point 63: the weakest breach of a plan, by trying all rows."""

import random
import unittest

from barbreaks.errors import TooMany
from barbreaks.grids import Grid
from barbreaks.houses import House
from barbreaks.items import Break, Piece
from barbreaks.judging import weakest
from barbreaks.orders import Order
from barbreaks.outlooks import Outlook
from barbreaks.plainly import plain_weakest
from barbreaks.plans import Plan
from tests.helpers import Case, a_house, narrowed_at_random
from tests.plan_days import plain_lateness, plan_orders, plan_state, some_plan


def rows_order(spread, packs):
    """An order with 5 * 5 * 4 * (spread + 1) * (packs + 1) rows."""
    house = House(1, 1, pack=(0, packs), walk=(0, 3))
    lineup = [Break("gap", grid=Grid(1), minute=0, places=1, unit=9, delay=4),
              Piece("talk", grid=Grid(1), least=2, most=2 + spread, delay=4)]
    return Order(house, 0, lineup)


def rows_plan(spread, packs):
    return Plan(rows_order(spread, packs), studios={"talk": 0}, crews={"talk": 0})


class TestPlainWeakest(Case):
    def test_against_all_rows(self):
        rng = random.Random("plainly")
        broken = 0
        for number, order in enumerate(plan_orders("plainly", 50, 100)):
            plan = some_plan(order, rng)
            full = Outlook(order)
            for outlook in [None, full, narrowed_at_random(full, number)]:
                lateness = plain_weakest(plan, outlook)
                self.assertEqual(lateness, plain_lateness(plan, full if outlook is None else outlook))
                breach = weakest(plan, outlook)
                self.assertEqual(lateness, None if breach is None else breach.lateness)
                broken += lateness is not None
            self.assertEqual(plain_weakest(plan), plain_weakest(plan, None))
        self.assertGreater(broken, 40)

    def test_two_thousand_rows(self):
        plan = rows_plan(3, 4)
        self.assertEqual(Outlook(plan.order).row_count(), 2000)
        self.assertEqual(plain_weakest(plan), 1)

    def test_more_than_two_thousand_rows(self):
        plan = rows_plan(3, 5)
        full = Outlook(plan.order)
        self.refuses(TooMany("rows", 2000), plain_weakest, plan)
        self.refuses(TooMany("rows", 2000), plain_weakest, plan, full)
        self.assertEqual(plain_weakest(plan, full.narrowed("talk", "pack", 1, 5)), 1)
        self.assertIsNone(plain_weakest(plan, full.narrowed("gap", "delay", 0, 0)))

    def test_without_items(self):
        self.assertIsNone(plain_weakest(Plan(Order(a_house(), 0, []), studios={}, crews={})))

    def test_nothing_is_changed(self):
        plan = rows_plan(3, 5)
        before = plan_state(plan)
        self.refuses(TooMany("rows", 2000), plain_weakest, plan)
        self.assertEqual(plan_state(plan), before)


if __name__ == "__main__":
    unittest.main()
