"""Points 57 to 59: plans and their demands."""

import random
import unittest

from barbreaks.demands import Demand
from barbreaks.errors import BadNumber, BadSize, Missing, Unknown
from barbreaks.grids import Grid
from barbreaks.houses import House
from barbreaks.items import Break, Piece
from barbreaks.orders import Order
from barbreaks.plans import Plan
from barbreaks.sheets import Sheet
from tests.helpers import Case, a_break, a_house, a_piece, an_order, doc_order
from tests.plan_days import demand_tuples, plan_orders, plan_state, some_plan, words_of

STUDIOS = {"talk": 0, "song": 1}
CREWS = {"talk": 2, "song": 3}
SPOTS = {"noon": ["cars", None], "eve": [None, "soap", "cars"]}


def a_plan(**more):
    """A plan of an order with the pieces talk and song, three studios and four crews."""
    return Plan(an_order(), **{"studios": STUDIOS, "crews": CREWS, "spots": SPOTS, **more})


def made(*, studios=None, crews=None, spots=None):
    """Makes a plan with what is given here in the place of what is right."""
    return a_plan(studios=STUDIOS if studios is None else studios,
                  crews=CREWS if crews is None else crews, spots=spots)


class TestPlan(Case):
    def test_attributes(self):
        order = an_order()
        plan = Plan(order, studios={"song": 1, "talk": 0}, crews={"song": 3, "talk": 2}, spots=SPOTS)
        self.assertIs(plan.order, order)
        self.assertEqual(list(plan.studios.items()), [("talk", 0), ("song", 1)])
        self.assertEqual(list(plan.crews.items()), [("talk", 2), ("song", 3)])
        self.assertIs(type(plan.sheet), Sheet)
        self.assertIs(plan.sheet.order, order)
        self.assertEqual(plan.sheet.entries_of("noon"), ("cars", None))
        self.assertEqual(plan.sheet.entries_of("eve"), (None, "soap", "cars"))

    def test_without_spots(self):
        order = an_order()
        for plan in [Plan(order, studios=STUDIOS, crews=CREWS), a_plan(spots=None), a_plan(spots={})]:
            self.assertEqual(list(plan.sheet), [])
            self.assertEqual(plan.sheet.entries_of("eve"), (None, None, None))

    def test_parts_are_copied(self):
        studios, crews, entries = dict(STUDIOS), dict(CREWS), ["cars", None]
        plan = a_plan(studios=studios, crews=crews, spots={"noon": entries})
        before = plan_state(plan)
        studios["talk"] = 2
        crews.clear()
        entries[0] = "soap"
        self.assertEqual(plan_state(plan), before)
        self.assertEqual((STUDIOS, CREWS), ({"talk": 0, "song": 1}, {"talk": 2, "song": 3}))

    def test_numbers_by_keyword(self):
        self.assertRaises(TypeError, Plan, an_order(), STUDIOS, CREWS)
        self.assertRaises(TypeError, Plan, an_order(), studios=STUDIOS)

    def test_bounds_of_studios_and_crews(self):
        for studio in [0, 2]:
            self.assertEqual(made(studios={"talk": studio, "song": 0}).studios["talk"], studio)
        for crew in [0, 3]:
            self.assertEqual(made(crews={"talk": 0, "song": crew}).crews["song"], crew)
        for studio in [-1, 3]:
            self.refuses(BadNumber(studio), made, studios={"talk": studio, "song": 0})
        for crew in [-1, 4]:
            self.refuses(BadNumber(crew), made, crews={"talk": 0, "song": crew})

    def test_names(self):
        for strange in ["noon", "x", ""]:
            self.refuses(Unknown(strange), made, studios={**STUDIOS, strange: 0})
            self.refuses(Unknown(strange), made, crews={**CREWS, strange: 0})
        self.refuses(Missing("song"), made, studios={"talk": 0})
        self.refuses(Missing("talk"), made, crews={"song": 0})

    def test_order_of_the_checks(self):
        # A strange name comes before all others, and then piece by piece.
        self.refuses(Unknown("x"), made, studios={"x": 9})
        self.refuses(Unknown("y"), made, studios={"talk": -1, "y": 9, "x": 9})
        self.refuses(Missing("talk"), made, studios={"song": 9})
        self.refuses(BadNumber(7), made, studios={"talk": 7})
        self.refuses(BadNumber(7), made, studios={"song": 8, "talk": 7})
        self.refuses(Missing("song"), made, studios={"talk": 2})
        # Studios come before crews, and both before the sheet.
        self.refuses(Missing("song"), made, studios={"talk": 0}, crews={"x": 0})
        self.refuses(BadNumber(3), made, studios={"talk": 0, "song": 3}, crews={"x": 0}, spots={"x": []})
        self.refuses(Unknown("x"), made, crews={"x": 0}, spots={"y": []})
        self.refuses(Missing("talk"), made, crews={}, spots={"y": []})
        self.refuses(BadNumber(4), made, crews={"talk": 4, "song": 0}, spots={"y": []})

    def test_checks_of_the_sheet(self):
        self.refuses(Unknown("talk"), made, spots={"talk": []})
        self.refuses(BadSize(1), made, spots={"eve": ["cars"]})
        self.refuses(Unknown("tea"), made, spots={"noon": ["tea", None]})

    def test_orders_without_pieces(self):
        for lineup in [[], [a_break("noon")]]:
            plan = Plan(Order(a_house(), 0, lineup), studios={}, crews={})
            self.assertEqual((plan.studios, plan.crews), ({}, {}))
        empty = Order(a_house(), 0, [])
        self.refuses(Unknown("talk"), Plan, empty, studios={"talk": 0}, crews={})


class TestChanges(Case):
    def test_with_studio(self):
        plan = a_plan()
        before = plan_state(plan)
        for studio in [0, 1, 2]:
            other = plan.with_studio("song", studio)
            self.assertIs(type(other), Plan)
            self.assertIs(other.order, plan.order)
            self.assertEqual(list(other.studios.items()), [("talk", 0), ("song", studio)])
            self.assertEqual(plan_state(other)[1:], before[1:])
        self.assertEqual(plan_state(plan), before)

    def test_with_crew(self):
        plan = a_plan()
        before = plan_state(plan)
        for crew in [0, 3]:
            other = plan.with_crew("talk", crew)
            self.assertIs(other.order, plan.order)
            self.assertEqual(list(other.crews.items()), [("talk", crew), ("song", 3)])
            self.assertEqual([plan_state(other)[0], plan_state(other)[2]], [before[0], before[2]])
        self.assertEqual(plan_state(plan), before)

    def test_checks_of_studio_and_crew(self):
        plan = a_plan()
        for name in ["noon", "x"]:
            self.refuses(Unknown(name), plan.with_studio, name, 9)
            self.refuses(Unknown(name), plan.with_crew, name, 9)
        for studio in [-1, 3]:
            self.refuses(BadNumber(studio), plan.with_studio, "talk", studio)
        for crew in [-1, 4]:
            self.refuses(BadNumber(crew), plan.with_crew, "song", crew)
        self.assertEqual(plan_state(plan), plan_state(a_plan()))

    def test_with_spot(self):
        plan = a_plan()
        before = plan_state(plan)
        other = plan.with_spot("eve", 0, "soap")
        self.assertEqual(other.sheet.entries_of("eve"), ("soap", "soap", "cars"))
        self.assertEqual(other.sheet.entries_of("noon"), ("cars", None))
        self.assertEqual(plan_state(other)[:2], before[:2])
        self.assertEqual(plan.with_spot("noon", 0, None).sheet.entries_of("noon"), (None, None))
        self.assertEqual(plan_state(plan.with_spot("noon", 0, "cars")), before)
        self.assertEqual(plan_state(plan), before)

    def test_checks_of_spots(self):
        plan = a_plan()
        self.refuses(Unknown("talk"), plan.with_spot, "talk", 9, "tea")
        for place in [-1, 2]:
            self.refuses(BadNumber(place), plan.with_spot, "noon", place, "tea")
        self.refuses(Unknown("tea"), plan.with_spot, "noon", 1, "tea")

    def test_with_order(self):
        plan = a_plan()
        before = plan_state(plan)
        for order in [plan.order.moved(7), plan.order.retimed("eve", 99),
                      plan.order.with_house(plan.order.house.with_apart(3))]:
            other = plan.with_order(order)
            self.assertIs(type(other), Plan)
            self.assertIs(other.order, order)
            self.assertIs(other.sheet.order, order)
            self.assertEqual(plan_state(other), before)
        self.assertEqual(plan_state(plan), before)

    def test_with_order_of_another_lineup(self):
        plan = a_plan()
        other = plan.with_order(plan.order.swapped("talk", "song").swapped("noon", "eve"))
        self.assertEqual(list(other.studios.items()), [("song", 1), ("talk", 0)])
        self.assertEqual(list(other.crews.items()), [("song", 3), ("talk", 2)])
        self.assertEqual(list(other.sheet), [("eve", 1, "soap"), ("eve", 2, "cars"), ("noon", 0, "cars")])


def told(plan):
    """The demands of a plan as tuples."""
    return [(demand.word, demand.first, demand.second, demand.ticks) for demand in plan.demands()]


class TestDemands(Case):
    def test_many_plans(self):
        rng = random.Random("demands")
        words = set()
        for order in plan_orders("demands", 80, 10 ** 9):
            plan = some_plan(order, rng)
            self.assertEqual(told(plan), demand_tuples(plan))
            words.update(demand.word for demand in plan.demands())
            self.assertTrue(all(type(demand) is Demand for demand in plan.demands()))
        self.assertEqual(words, {"swallowed", "late", "busy", "meet", "near"})

    def test_without_items(self):
        self.assertEqual(Plan(Order(a_house(), 0, []), studios={}, crews={}).demands(), [])

    def test_one_piece_and_one_break(self):
        plan = Plan(Order(a_house(), 0, [a_piece("a")]), studios={"a": 0}, crews={"a": 0})
        self.assertEqual(told(plan), [("late", ("enter", "a"), ("begin", "a"), 0)])
        gap = a_break("gap", grid=Grid(7, 2), minute=20, patience=3)
        plan = Plan(Order(a_house(), 5, [gap]), studios={}, crews={})
        self.assertEqual(told(plan), [("swallowed", ("begin", "gap"), ("opens",), 5 - 37)])

    def test_two_pieces(self):
        order = Order(House(2, 2), 0, [a_piece("a"), a_piece("b")])
        late = [("late", ("enter", "a"), ("begin", "a"), 0), ("late", ("enter", "b"), ("begin", "b"), 0)]
        busy = ("busy", ("out", "a"), ("call", "b"), 0)
        meet = ("meet", ("out", "a"), ("enter", "b"), 0)
        for studio, crew, more in [(1, 1, []), (0, 1, [meet]), (1, 0, [busy]), (0, 0, [busy, meet])]:
            plan = Plan(order, studios={"a": 0, "b": studio}, crews={"a": 0, "b": crew})
            self.assertEqual(told(plan), late + more)

    def test_three_pieces(self):
        order = Order(House(1, 1), 0, [a_piece("c"), a_piece("a"), a_piece("b")])
        plan = Plan(order, studios={"a": 0, "b": 0, "c": 0}, crews={"a": 0, "b": 0, "c": 0})
        pairs = [(word, first[1], second[1]) for word, first, second, _ in told(plan)[3:]]
        self.assertEqual(pairs, [("busy", "c", "a"), ("meet", "c", "a"), ("busy", "c", "b"),
                                 ("meet", "c", "b"), ("busy", "a", "b"), ("meet", "a", "b")])

    def test_three_spots_of_one_kind(self):
        lineup = [Break("one", grid=Grid(1), minute=0, places=2, unit=3),
                  Break("two", grid=Grid(1), minute=9, places=3, unit=3)]
        order = Order(House(1, 1, ["cars", "soap"], apart=4), 0, lineup)
        plan = Plan(order, studios={}, crews={},
                    spots={"one": ["cars", "soap"], "two": [None, "cars", "cars"]})
        self.assertEqual(told(plan)[2:], [("near", ("place", "one", 0), ("place", "two", 1), 4),
                                          ("near", ("place", "two", 1), ("place", "two", 2), 4)])
        plan = Plan(order, studios={}, crews={},
                    spots={"one": ["cars", "soap"], "two": ["soap", "cars", None]})
        self.assertEqual(told(plan)[2:], [("near", ("place", "one", 0), ("place", "two", 1), 4),
                                          ("near", ("place", "one", 1), ("place", "two", 0), 4)])
        plan = Plan(order, studios={}, crews={}, spots={"one": ["cars", "soap"]})
        self.assertEqual(len(told(plan)), 2)

    def test_example(self):
        order = doc_order()
        plan = Plan(order, studios={"talk": 0}, crews={"talk": 0},
                    spots={"noon": ["cars", None], "eve": ["cars", None]})
        self.assertEqual(told(plan), [
            ("swallowed", ("begin", "noon"), ("opens",), -10),
            ("late", ("enter", "talk"), ("begin", "talk"), 0),
            ("swallowed", ("begin", "eve"), ("opens",), -30),
            ("near", ("place", "noon", 0), ("place", "eve", 0), 14)])

    def test_lists_are_new(self):
        plan = a_plan()
        before = told(plan)
        plan.demands().clear()
        self.assertEqual(told(plan), before)
        self.assertEqual(words_of(plan.order), words_of(an_order()))


if __name__ == "__main__":
    unittest.main()
