"""Point 64: a plan that holds, where there is one."""

import random
import unittest

from barbreaks.errors import BadNumber, Troubled, Unknown
from barbreaks.judging import judge
from barbreaks.making import make_plan
from barbreaks.orders import Order
from barbreaks.plans import Plan
from barbreaks.troubles import check_trouble, trouble
from tests.helpers import Case, a_break, a_house, a_piece, doc_order, wide_order
from tests.plan_days import (counts_in, every_giving, every_sheet, is_kept, plan_orders, words_of)
from tests.spot_days import days_of
from tests.trouble_days import stage


def full_counts(order, counts):
    return {kind: counts.get(kind, 0) for kind in order.house.kinds}


def some_plan_holds(order, counts, days):
    """True if some plan with these counts is kept in all rows, by trying."""
    for spots in every_sheet(order):
        if counts_in(order, spots) == full_counts(order, counts):
            for studios in every_giving(order.piece_names(), order.house.studios):
                for crews in every_giving(order.piece_names(), order.house.crews):
                    plan = Plan(order, studios=studios, crews=crews, spots=spots)
                    if all(is_kept(plan, day) for day in days):
                        return True
    return False


class TestMakePlan(Case):
    def troubled(self, order, counts):
        """The error of make_plan, whose trouble is right."""
        with self.assertRaises(Troubled) as caught:
            make_plan(order, counts)
        found = caught.exception.trouble
        self.assertEqual(found.word, trouble(order, counts).word)
        self.assertIs(check_trouble(order, counts, found), True)
        return found

    def test_against_all_rows_and_plans(self):
        rng = random.Random("making")
        answers = {True: 0, False: 0}
        for order in plan_orders("making", 140, 30):
            if sum(order[name].places for name in order.break_names()) > 4:
                continue
            counts = {kind: rng.randrange(3) for kind in order.house.kinds if rng.random() < 0.7}
            days = days_of(order)
            possible = some_plan_holds(order, counts, days)
            answers[possible] += 1
            if possible:
                plan = make_plan(order, counts)
                self.assertIs(type(plan), Plan)
                self.assertIs(plan.order, order)
                self.assertEqual(plan.sheet.counts(), full_counts(order, counts))
                self.assertTrue(all(is_kept(plan, day) for day in days))
            else:
                self.troubled(order, counts)
        self.assertGreater(min(answers.values()), 25)

    def test_each_trouble(self):
        self.assertTrue(judge(make_plan(stage(), {"cars": 2, "soap": 2})))
        for order, counts, word in [
                (stage(patience=2), {}, "swallowed"), (stage(walk=(0, 3)), {}, "late"),
                (stage(studios=1), {}, "studios"), (stage(crews=1), {}, "crews"),
                (stage(), {"cars": 3}, "spots"), (stage(crews=1), {"cars": 3}, "crews")]:
            self.assertEqual(self.troubled(order, counts).word, word)

    def test_wide_orders(self):
        house = wide_order([1] * 8).house
        order = wide_order([100] * 4, breaks=(0, 2), least=20).with_house(house)
        found = trouble(order, {})
        if found is None:
            self.assertTrue(judge(make_plan(order, {})))
        else:
            self.troubled(order, {})

    def test_without_items(self):
        plan = make_plan(Order(a_house(), 0, []), {})
        self.assertEqual((plan.studios, plan.crews, list(plan.sheet)), ({}, {}, []))
        self.assertEqual(self.troubled(Order(a_house(), 0, []), {"cars": 1}).word, "spots")
        plan = make_plan(Order(a_house(walk=(0, 0)), 0, [a_piece("a")]), {})
        self.assertEqual((plan.studios, plan.crews), ({"a": 0}, {"a": 0}))
        plan = make_plan(Order(a_house(), 0, [a_break("noon")]), {"soap": 1})
        self.assertEqual(plan.sheet.counts(), {"cars": 0, "soap": 1})

    def test_counts_come_first(self):
        order = stage(patience=2)
        self.refuses(Unknown("tea"), make_plan, order, {"cars": 61, "tea": 0})
        self.refuses(BadNumber(61), make_plan, order, {"cars": 61, "soap": -1})
        self.refuses(BadNumber(-1), make_plan, order, {"soap": -1})

    def test_nothing_is_changed(self):
        order, counts = stage(), {"cars": 1}
        plan = make_plan(order, counts)
        plan.studios.clear()
        self.assertEqual(counts, {"cars": 1})
        self.assertEqual(words_of(order), words_of(stage()))
        self.assertEqual(list(make_plan(order, counts).studios), ["one", "two"])

    def test_example(self):
        plan = make_plan(doc_order(), {"cars": 2})
        self.assertEqual(judge(plan).line(), "4 demands, safe by 0")


if __name__ == "__main__":
    unittest.main()
