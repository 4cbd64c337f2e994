"""Point 71: the least minute with which a break makes a plan safe."""

import random
import unittest

from barbreaks.breaches import Breach
from barbreaks.errors import BadNumber, Unknown
from barbreaks.faults import faults
from barbreaks.grids import Grid
from barbreaks.houses import House
from barbreaks.items import Break, Piece
from barbreaks.judging import judge, weakest
from barbreaks.minutes import Minute, least_minute
from barbreaks.orders import Order
from barbreaks.outlooks import Outlook
from barbreaks.plans import Plan
from tests.helpers import Case, wide_order
from tests.plan_days import is_kept, plan_orders, plan_state, some_plan, words_of
from tests.spot_days import days_of


def eve_plan(minute=20):
    """A piece that ends from 4 to 8, and a break that must begin at 10 at the latest for two."""
    house = House(1, 1, ["cars"], apart=5)
    lineup = [Piece("talk", grid=Grid(1), least=4, most=8),
              Break("eve", grid=Grid(1), minute=minute, places=2, unit=5)]
    return Plan(Order(house, 0, lineup), studios={"talk": 0}, crews={"talk": 0},
                spots={"eve": ["cars", "cars"]})


class TestLeastMinute(Case):
    def right(self, plan, name, low, high):
        """The Minute is as the document describes it, by trying each minute; returns its minute."""
        found = least_minute(plan, name, low, high)
        self.assertIs(type(found), Minute)
        self.assertIs(type(found.breaches), list)
        tried = [plan.with_order(plan.order.retimed(name, minute)) for minute in range(low, high + 1)]
        safe = [number for number, other in enumerate(tried) if judge(other)]
        self.assertEqual(found.minute, low + safe[0] if safe else None)
        self.assertEqual(len(found.breaches), safe[0] if safe else high - low + 1)
        for breach, other in zip(found.breaches, tried):
            self.assertIs(type(breach), Breach)
            self.assertEqual(breach.lateness, weakest(other).lateness)
            self.assertEqual(Outlook(other.order).lateness_of(breach.row), breach.lateness)
            demand = (breach.demand.word, breach.demand.first, breach.demand.second)
            self.assertIn(demand, [fault[:3] for fault in faults(other, breach.row)])
        return found.minute

    def test_against_all_rows(self):
        rng = random.Random("minutes")
        found = []
        for order in plan_orders("minutes", 60, 30):
            plan = some_plan(order, rng)
            for name in order.break_names():
                low = order[name].minute - rng.randrange(8)
                minute = self.right(plan, name, low, low + 12)
                for tried in range(low, low + 13 if minute is None else minute + 1):
                    other = plan.with_order(order.retimed(name, tried))
                    kept = all(is_kept(other, day) for day in days_of(other.order))
                    self.assertIs(kept, tried == minute)
                found.append(None if minute is None else minute - low)
        self.assertIn(None, found)
        self.assertIn(0, found)
        self.assertGreater(len(set(found)), 4)

    def test_edges(self):
        plan = eve_plan()
        # The break must be able to begin at 8, so its minute is 8 or later.
        self.assertEqual(self.right(plan, "eve", 0, 20), 8)
        self.assertEqual(self.right(plan, "eve", 8, 8), 8)
        self.assertIsNone(self.right(plan, "eve", 7, 7))
        self.assertEqual(self.right(plan, "eve", 9, 30), 9)
        self.assertEqual(self.right(plan, "eve", 0, 8), 8)
        self.assertIsNone(self.right(plan, "eve", 0, 7))
        self.assertEqual(self.right(plan, "eve", -32, 8), 8)
        self.assertIsNone(self.right(plan, "eve", -33, 7))

    def test_bounds(self):
        plan = eve_plan()
        for low, high in [(0, -1), (5, 4), (0, 41), (-20, 21), (10 ** 40 - 1, 10 ** 40 + 40)]:
            self.refuses(BadNumber(high), least_minute, plan, "eve", low, high)
        self.assertEqual(least_minute(plan, "eve", 0, 40).minute, 8)
        self.assertEqual(least_minute(plan, "eve", 10 ** 39, 10 ** 39 + 40).minute, 10 ** 39)
        self.assertEqual(len(least_minute(plan, "eve", -40, 0).breaches), 41)

    def test_names(self):
        plan = eve_plan()
        for name in ["talk", "x", ""]:
            self.refuses(Unknown(name), least_minute, plan, name, 0, 1)
            self.refuses(Unknown(name), least_minute, plan, name, 0, 41)

    def test_safe_minutes_need_not_be_one_after_another(self):
        # Behind the least minute there may be one that is not safe.
        plan = Plan(Order(House(1, 1), 0, [
            Break("eve", grid=Grid(4), minute=0, places=1, unit=2, delay=2),
            Break("late", grid=Grid(1), minute=6, places=1, unit=2)]), studios={}, crews={})
        self.assertEqual(self.right(plan, "eve", -3, 9), 1)
        self.assertFalse(judge(plan.with_order(plan.order.retimed("eve", 3))))

    def test_wide_order(self):
        order = wide_order([7, 3, 12, 5, 2, 30, 1, 9], breaks=(2, 5))
        names = order.piece_names()
        plan = Plan(order, studios={name: at % 2 for at, name in enumerate(names)},
                    crews={name: at % 2 for at, name in enumerate(names)})
        self.right(plan, "x5", 100, 140)

    def test_nothing_is_changed(self):
        plan = eve_plan()
        before = plan_state(plan), words_of(plan.order)
        found = least_minute(plan, "eve", 0, 20)
        found.breaches.clear()
        self.assertEqual((plan_state(plan), words_of(plan.order)), before)
        self.assertEqual(len(least_minute(plan, "eve", 0, 20).breaches), 8)


if __name__ == "__main__":
    unittest.main()
