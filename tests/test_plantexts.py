"""Point 81: texts of plans."""

import random
import unittest

from barbreaks.errors import BadNumber, BadSize, BadText, Unknown
from barbreaks.grids import Grid
from barbreaks.houses import House
from barbreaks.items import Break, Piece
from barbreaks.orders import Order
from barbreaks.ordertexts import write_order
from barbreaks.plans import Plan
from barbreaks.plantexts import read_plan, write_plan
from tests.helpers import Case, a_house, doc_order
from tests.plan_days import plan_orders, plan_state, some_plan, words_of
from tests.test_ordertexts import LineCase

BIG = 10 ** 40 - 1


def text_order():
    """Two pieces and two breaks, by turns."""
    house = House(2, 3, ["cars", "soap"])
    return Order(house, 0, [Piece("one", grid=Grid(1), least=4, most=6),
                            Break("gap", grid=Grid(10), minute=5, places=2, unit=5),
                            Piece("two", grid=Grid(1), least=4, most=6),
                            Break("eve", grid=Grid(10), minute=20, places=1, unit=5)])


HEAD = write_order(text_order()).split("\n")
TAIL = ["studio one 0", "studio two 1", "crew one 2", "crew two 0", "spots gap cars .", "spots eve soap"]
START = len(HEAD)


class PlanTextCase(LineCase):
    def bad(self, lines, number, cause=None):
        self.faulty(read_plan, lines, number, cause)

    def bad_tail(self, at, line, cause=None):
        """The line in the place of this one of the tail is faulty, whatever follows."""
        self.bad([*HEAD, *TAIL[:at], line, *TAIL[at + 1:]], START + at + 1, cause)
        self.bad([*HEAD, *TAIL[:at], line], START + at + 1, cause)
        self.bad([*HEAD, *TAIL[:at], line, "x"], START + at + 1, cause)


class TestWritePlan(Case):
    def test_lines(self):
        plan = Plan(text_order(), studios={"two": 1, "one": 0}, crews={"two": 0, "one": 2},
                    spots={"eve": ["soap"], "gap": ["cars", None]})
        self.assertEqual(write_plan(plan).split("\n"), [*HEAD, *TAIL])

    def test_without_spots(self):
        plan = Plan(doc_order(), studios={"talk": 1}, crews={"talk": 0})
        self.assertEqual(write_plan(plan), write_order(doc_order()) +
                         "\nstudio talk 1\ncrew talk 0\nspots noon . .\nspots eve . .")

    def test_without_items(self):
        order = Order(a_house(), 0, [])
        self.assertEqual(write_plan(Plan(order, studios={}, crews={})), write_order(order))


class TestReadPlan(PlanTextCase):
    def test_what_was_written(self):
        rng = random.Random("plan texts")
        for order in plan_orders("plan texts", 60, 10 ** 9):
            plan = some_plan(order, rng)
            text = write_plan(plan)
            found = read_plan(text)
            self.assertIs(type(found), Plan)
            self.assertEqual(words_of(found.order), words_of(order))
            self.assertEqual(plan_state(found), plan_state(plan))
            self.assertEqual(write_plan(found), text)

    def test_lines(self):
        plan = read_plan("\n".join([*HEAD, *TAIL]))
        self.assertEqual((plan.studios, plan.crews), ({"one": 0, "two": 1}, {"one": 2, "two": 0}))
        self.assertEqual(list(plan.sheet), [("gap", 0, "cars"), ("eve", 0, "soap")])

    def test_without_items(self):
        order = Order(a_house(), 0, [])
        plan = read_plan(write_order(order))
        self.assertEqual((plan.studios, plan.crews, list(plan.sheet)), ({}, {}, []))
        lines = write_order(order).split("\n")
        for line in ["studio one 0", "crew one 0", "spots gap .", "studio", "spots"]:
            self.bad([*lines, line], len(lines) + 1)

    def test_lines_of_the_order(self):
        for at, line in enumerate(HEAD):
            self.bad([*HEAD[:at], line + " ", *HEAD[at + 1:], *TAIL], at + 1)
        self.bad([*HEAD, "", *TAIL], START + 1)
        self.bad([*HEAD, "piece one 1 - 0 4 6", *TAIL], START + 1)
        self.bad(["house 9 2 1 14", *HEAD[1:], *TAIL], 1, BadNumber)

    def test_an_order_that_ends_before_its_opening(self):
        for count in range(6):
            self.bad([*HEAD[:count], *TAIL], count + 1)
            for line in ["studio", "crew", "spots", "spots ", "studio x y z"]:
                self.bad([*HEAD[:count], line], count + 1)
        self.bad([""], 1)

    def test_words_that_only_begin_like_those_of_the_plan(self):
        for line in ["studios one 0", "studio\tone 0", "Studio one 0", " studio one 0", "spot gap . ."]:
            self.bad([*HEAD, line, *TAIL], START + 1)
        for line in ["studio", "studio ", "crew", "spots", "studio one", "spots gap"]:
            self.bad([*HEAD, line, *TAIL], START + 1)

    def test_studio_lines(self):
        for line in ["studio", "studio one", "studio one ", "studio one 0 0", "studio  one 0", "studio one  0",
                     "studio one 0 ", " studio one 0", "studio two 0", "studio gap 0", "studio x 0", "crew one 0",
                     "spots gap cars .", "", "one 0"]:
            self.bad_tail(0, line)
        for line in ["studio one 2", "studio one -1"]:
            self.bad_tail(0, line, BadNumber)
        for line in ["studio one x", "studio one +1", "studio one 00", "studio one ", f"studio one {BIG + 1}"]:
            self.bad_tail(0, line, BadText)
        self.bad_tail(1, "studio one 0")
        self.bad_tail(2, "studio two 1")

    def test_crew_lines(self):
        for line in ["crew", "crew one", "crew two 0", "crew one 0 0", "crew one 0 ", "studio one 0", "spots gap . ."]:
            self.bad_tail(2, line)
        for line in ["crew one 3", "crew one -1"]:
            self.bad_tail(2, line, BadNumber)
        self.bad_tail(3, "crew two 01", BadText)
        plan = read_plan("\n".join([*HEAD, *TAIL[:2], "crew one 2", "crew two 2", *TAIL[4:]]))
        self.assertEqual(plan.crews, {"one": 2, "two": 2})

    def test_spots_lines(self):
        for line in ["spots", "spots eve soap", "spots one", "spots  gap . .", " spots gap . .", "crew one 0", ""]:
            self.bad_tail(4, line)
        for line in ["spots gap", "spots gap cars", "spots gap cars . .", "spots gap . . "]:
            self.bad_tail(4, line, BadSize)
        for line in ["spots gap cars tea", "spots gap cars ", "spots gap  cars", "spots gap Cars .", "spots gap .. .",
                     "spots gap - ."]:
            self.bad_tail(4, line, Unknown)
        plan = read_plan("\n".join([*HEAD, *TAIL[:4], "spots gap soap soap", "spots eve ."]))
        self.assertEqual(list(plan.sheet), [("gap", 0, "soap"), ("gap", 1, "soap")])

    def test_missing_lines(self):
        for count in range(len(TAIL)):
            self.bad([*HEAD, *TAIL[:count]], START + count + 1)

    def test_lines_that_are_not_due(self):
        for line in ["", "spots eve soap", "studio one 0", "x", "piece three 1 - 0 4 6"]:
            self.bad([*HEAD, *TAIL, line], START + len(TAIL) + 1)

    def test_items_behind_the_plan(self):
        self.bad([*HEAD[:-1], *TAIL[:1], HEAD[-1]], START + 1)

    def test_the_first_faulty_line_counts(self):
        self.bad([*HEAD[:2], "x", *HEAD[3:], "studio one 9"], 3)
        self.bad([*HEAD, "studio one 9", "x"], START + 1, BadNumber)

    def test_names_like_words_of_the_text(self):
        order = Order(House(1, 1, ["kind"]), 0, [Piece("studio", grid=Grid(1), least=1, most=1),
                                                 Break("spots", grid=Grid(1), minute=0, places=1, unit=1)])
        text = write_plan(Plan(order, studios={"studio": 0}, crews={"studio": 0}, spots={"spots": ["kind"]}))
        self.assertEqual(write_plan(read_plan(text)), text)


if __name__ == "__main__":
    unittest.main()
