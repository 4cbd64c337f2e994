"""Points 61 and 62: margins, verdicts and the weakest breach of a plan."""

import random
import unittest

from barbreaks.breaches import Breach
from barbreaks.faults import faults
from barbreaks.grids import Grid
from barbreaks.houses import House
from barbreaks.items import Break, Piece
from barbreaks.judging import Broken, Safe, Verdict, judge, margins, weakest
from barbreaks.orders import Order
from barbreaks.outlooks import Outlook
from barbreaks.plans import Plan
from barbreaks.reach import Reach
from tests.helpers import Case, a_house, doc_order, narrowed_at_random, wide_order
from tests.plan_days import (demand_tuples, late_days, margin_in, plain_lateness, plan_orders,
                             plan_state, some_plan, words_of)

BIG = 10 ** 40 - 1


def outlooks_of(order, seed):
    """None, the full outlook, and two narrowed ones."""
    full = Outlook(order)
    return [None, full, narrowed_at_random(full, seed), narrowed_at_random(full, seed + 1)]


def plain_margins(plan, outlook):
    """The least margins of all demands, by going through all rows."""
    days = [day for _, _, day in late_days(outlook)]
    return [min(margin_in(day, demand) for day in days) for demand in demand_tuples(plan)]


class JudgingCase(Case):
    def weak(self, plan, outlook, breach, lateness):
        """The breach is one of the plan, with a row of the outlook and this lateness."""
        self.assertIs(type(breach), Breach)
        self.assertIs(type(breach.row), list)
        self.assertEqual(breach.lateness, lateness)
        self.assertIn(breach.row, outlook)
        self.assertEqual(outlook.lateness_of(breach.row), lateness)
        demand = (breach.demand.word, breach.demand.first, breach.demand.second)
        self.assertIn(demand, [fault[:3] for fault in faults(plan, breach.row)])
        self.assertIn((*demand, breach.demand.ticks), demand_tuples(plan))


class TestJudging(JudgingCase):
    def test_against_all_rows(self):
        rng = random.Random("judging")
        found = {True: 0, False: 0}
        words = set()
        for number, order in enumerate(plan_orders("judged", 150, 60)):
            plan = some_plan(order, rng)
            for outlook in outlooks_of(order, number):
                rows = Outlook(order) if outlook is None else outlook
                self.judged(plan, outlook, rows)
                found[bool(judge(plan, outlook))] += 1
                if not judge(plan, outlook):
                    words.add(judge(plan, outlook).breach.demand.word)
        self.assertGreater(min(found.values()), 40)
        self.assertEqual(words, {"swallowed", "late", "busy", "meet", "near"})

    def judged(self, plan, outlook, rows):
        due = plain_margins(plan, rows)
        lateness = plain_lateness(plan, rows)
        self.assertEqual(margins(plan, outlook), due)
        verdict = judge(plan, outlook)
        self.assertIsInstance(verdict, Verdict)
        self.assertIs(verdict.plan, plan)
        count = len(due)
        if lateness is None:
            self.assertIs(type(verdict), Safe)
            self.assertIsNone(weakest(plan, outlook))
            self.assertEqual(verdict.margins, due)
            self.assertEqual(verdict.tables, Reach(rows).tables)
            self.assertEqual(verdict.line(), f"{count} demands, safe by {min(due)}" if due
                             else "0 demands, safe")
        else:
            self.assertIs(type(verdict), Broken)
            self.weak(plan, rows, verdict.breach, lateness)
            self.weak(plan, rows, weakest(plan, outlook), lateness)
            word = verdict.breach.demand.word
            self.assertEqual(verdict.line(), f"{count} demands, {word} broken at lateness {lateness}")

    def test_the_outlook_can_be_left_out(self):
        rng = random.Random("left out")
        for order in plan_orders("left out", 20, 50):
            plan = some_plan(order, rng)
            self.assertEqual(margins(plan), margins(plan, Outlook(order)))
            self.assertEqual(judge(plan).line(), judge(plan, None).line())
            self.assertEqual(weakest(plan) is None, weakest(plan, None) is None)

    def test_wide_orders(self):
        for order in [wide_order([1] * 8), wide_order([7, 3, 12, 5, 2, 30, 1, 9], breaks=(2, 5)),
                      wide_order([2, 5, 9, 17, 40, 64, 1000, BIG], least=BIG - 8)]:
            names = order.piece_names()
            plan = Plan(order, studios={name: at % 2 for at, name in enumerate(names)},
                        crews={name: at % 2 for at, name in enumerate(names)})
            self.assertEqual(len(margins(plan)), len(plan.demands()))
            verdict = judge(plan)
            self.assertIs(bool(verdict), min(margins(plan)) >= 0)
            self.weak(plan, Outlook(order), verdict.breach, weakest(plan).lateness)


def quiet_order(delay=2, **more):
    """A break that may be up to two ticks late, and a piece behind it."""
    told = {"grid": Grid(1), "minute": 3, "places": 2, "unit": 2, **more}
    lineup = [Break("gap", delay=delay, **told), Piece("talk", grid=Grid(1), least=2, most=3)]
    return Order(House(1, 1, ["cars"], walk=(0, 4), apart=3), 1, lineup)


def quiet_plan(spots=None, **more):
    return Plan(quiet_order(**more), studios={"talk": 0}, crews={"talk": 0}, spots=spots)


class TestVerdicts(JudgingCase):
    def test_without_demands(self):
        plan = Plan(Order(a_house(), 3, []), studios={}, crews={})
        verdict = judge(plan)
        self.assertIs(type(verdict), Safe)
        self.assertIs(bool(verdict), True)
        self.assertEqual((verdict.margins, verdict.tables), ([], [[(3, 0)]]))
        self.assertEqual(verdict.line(), "0 demands, safe")
        self.assertEqual((margins(plan), weakest(plan)), ([], None))

    def test_least_margin_of_zero(self):
        plan = quiet_plan(delay=0)
        verdict = judge(plan)
        self.assertIs(bool(verdict), True)
        self.assertEqual((verdict.margins, verdict.line()), ([0, 0], "2 demands, safe by 0"))

    def test_least_margin_below_zero(self):
        plan = quiet_plan()
        self.assertEqual(margins(plan), [-2, 0])
        verdict = judge(plan)
        self.assertIs(bool(verdict), False)
        self.assertEqual(verdict.line(), "2 demands, swallowed broken at lateness 1")
        self.weak(plan, Outlook(plan.order), verdict.breach, 1)

    def test_margins_are_written_in_full(self):
        order = Order(House(1, 1), 0, [Break("gap", grid=Grid(1), minute=-BIG, places=1, unit=1)])
        verdict = judge(Plan(order, studios={}, crews={}))
        self.assertEqual(verdict.line(), "1 demands, swallowed broken at lateness 0")
        self.assertEqual(margins(verdict.plan), [-BIG])
        order = Order(House(1, 1), -BIG, [Piece("a", grid=Grid(1), least=1, most=1, minute=BIG)])
        verdict = judge(Plan(order, studios={"a": 0}, crews={"a": 0}))
        self.assertEqual(verdict.line(), f"1 demands, safe by {2 * BIG}")

    def test_narrowed_outlooks(self):
        plan = quiet_plan()
        full = Outlook(plan.order)
        calm = full.narrowed("gap", "delay", 0, 0)
        self.assertEqual(judge(plan, calm).line(), "2 demands, safe by 0")
        self.assertIsNone(weakest(plan, calm))
        late = full.narrowed("gap", "delay", 2, 2)
        # The lateness is counted from the least values of this outlook.
        self.assertEqual(judge(plan, late).line(), "2 demands, swallowed broken at lateness 0")
        self.assertEqual(margins(plan, late), [-2, 0])
        self.assertEqual(margins(plan, late.narrowed("talk", "walk", 0, 1)), [-2, 3])

    def test_demands_broken_in_all_rows_in_some_and_in_none(self):
        spots = {"gap": ["cars", "cars"]}
        plan = quiet_plan(spots, unit=2, patience=9)
        self.assertEqual(judge(plan).line(), "3 demands, near broken at lateness 0")
        plan = quiet_plan(spots, unit=3, patience=2)
        self.assertEqual(judge(plan).line(), "3 demands, swallowed broken at lateness 2")
        plan = quiet_plan(spots, unit=3, patience=3)
        self.assertEqual(judge(plan).line(), "3 demands, safe by 0")
        # The demand that is broken soonest wins, whichever comes first.
        plan = quiet_plan(spots, unit=2)
        self.assertEqual(weakest(plan).demand.word, "near")

    def test_lateness_over_several_lags(self):
        house = House(1, 1, pack=(0, 3))
        lineup = [Piece("one", grid=Grid(1), least=3, most=6), Piece("two", grid=Grid(10), least=1, most=1)]
        order = Order(house, 0, lineup)
        plan = Plan(order, studios={"one": 0, "two": 0}, crews={"one": 0, "two": 0})
        breach = weakest(plan)
        self.assertEqual((breach.lateness, breach.demand.word), (0, "busy"))
        lineup.insert(1, Break("gap", grid=Grid(1), minute=0, places=1, unit=2, patience=64))
        plan = Plan(Order(house, 0, lineup), studios={"one": 0, "two": 0}, crews={"one": 0, "two": 0})
        self.weak(plan, Outlook(plan.order), weakest(plan), 1)

    def test_nothing_is_changed(self):
        plan = quiet_plan()
        outlook = Outlook(plan.order).narrowed("gap", "delay", 0, 0)
        before = plan_state(plan), words_of(plan.order)
        verdict = judge(plan, outlook)
        verdict.margins.clear()
        for table in verdict.tables:
            table.clear()
        margins(plan, outlook).clear()
        weakest(plan).row.clear()
        self.assertEqual((plan_state(plan), words_of(plan.order)), before)
        self.assertEqual(judge(plan, outlook).margins, [0, 0])
        self.assertEqual(judge(plan, outlook).tables[0], [(1, 0)])
        self.weak(plan, Outlook(plan.order), weakest(plan), 1)

    def test_verdict_of_the_example(self):
        plan = Plan(doc_order(), studios={"talk": 0}, crews={"talk": 0},
                    spots={"noon": ["cars", None], "eve": ["cars", None]})
        self.assertEqual(judge(plan).line(), "4 demands, safe by 0")

    def test_line_of_a_verdict_alone(self):
        for plan in [quiet_plan(), quiet_plan(delay=0)]:
            self.assertEqual(Verdict.line(judge(plan)), "2 demands")


if __name__ == "__main__":
    unittest.main()
