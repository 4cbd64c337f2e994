"""Points 65 and 66: why no plan holds."""

import itertools
import random
import unittest

from barbreaks.errors import BadNumber, Unknown
from barbreaks.faults import faults
from barbreaks.grids import Grid
from barbreaks.houses import House
from barbreaks.items import Break, Piece
from barbreaks.jams import Jam, check_jam, jam_of
from barbreaks.judging import judge
from barbreaks.orders import Order
from barbreaks.outlooks import Outlook
from barbreaks.plans import Plan
from barbreaks.runs import run
from barbreaks.troubles import Trouble, check_trouble, trouble
from tests.helpers import Case, a_break, a_house, a_piece, doc_order, plain_events, wide_order
from tests.plan_days import (counts_in, every_giving, every_sheet, is_kept, plan_orders, plan_state,
                             taken, words_of)
from tests.spot_days import days_of
from tests.trouble_days import plain_word, stage

WORDS = ["swallowed", "late", "studios", "crews", "spots"]


class TestTrouble(Case):
    def test_attributes(self):
        found = Trouble("late", name="a", row=[(0,)], moment=3, jam="x")
        self.assertEqual((found.word, found.name, found.row, found.moment, found.jam),
                         ("late", "a", [(0,)], 3, "x"))

    def test_what_is_left_out(self):
        found = Trouble("x")
        self.assertEqual((found.word, found.name, found.row, found.moment, found.jam),
                         ("x", None, None, None, None))
        self.assertRaises(TypeError, Trouble, "late", "a")

    def test_row_is_copied(self):
        row = [(0,), (0, 4, 1, 0)]
        found = Trouble("late", row=row)
        row.clear()
        self.assertEqual(found.row, [(0,), (0, 4, 1, 0)])
        self.assertEqual(Trouble("late", row=((0,),)).row, [(0,)])


class TroubleCase(Case):
    def shows(self, order, counts, found, word, name):
        """The trouble is as the document describes it."""
        self.assertIs(type(found), Trouble)
        self.assertEqual((found.word, found.name), (word, name))
        self.assertIs(check_trouble(order, counts, found), True)
        if word == "spots":
            self.assertEqual((found.row, found.moment), (None, None))
            self.assertIs(check_jam(order, counts, found.jam), True)
            jam = jam_of(order, counts)
            self.assertEqual((found.jam.kinds, found.jam.asked, found.jam.most),
                             (jam.kinds, jam.asked, jam.most))
            return
        self.assertIsNone(found.jam)
        self.assertIs(type(found.row), list)
        self.assertIn(found.row, Outlook(order))
        day = plain_events(order, found.row)
        if word in ["swallowed", "late"]:
            self.assertIsNone(found.moment)
            self.assertGreater(*(day["begin", name], order[name].limit) if word == "swallowed"
                               else (day["enter", name], day["begin", name]))
        if word == "studios":
            self.assertGreater(len(taken(order, day, "enter", found.moment)), order.house.studios)
        if word == "crews":
            self.assertGreater(len(taken(order, day, "call", found.moment)), order.house.crews)


class TestTroubles(TroubleCase):
    def test_against_all_rows(self):
        rng = random.Random("troubles")
        words = []
        for order in plan_orders("troubles", 250, 60):
            counts = {kind: rng.randrange(4) for kind in order.house.kinds if rng.random() < 0.8}
            due = plain_word(order, counts)
            found = trouble(order, counts)
            self.assertIs(found is None, due is None)
            words.append(None if due is None else due[0])
            if due is not None:
                self.shows(order, counts, found, *due)
        for word in [None, *WORDS]:
            self.assertGreater(words.count(word), 5, word)

    def test_breaks_every_plan(self):
        # The fact of point 65; where there is none, some plan holds.
        rng = random.Random("every plan")
        words = []
        for order in plan_orders("every plan", 90, 30):
            if len(order.break_names()) > 2 or sum(order[name].places for name in order.break_names()) > 4:
                continue
            counts = {kind: rng.randrange(3) for kind in order.house.kinds}
            found = trouble(order, counts)
            words.append(None if found is None else found.word)
            plans = [Plan(order, studios=studios, crews=crews, spots=spots)
                     for spots in every_sheet(order) if counts_in(order, spots) == counts
                     for studios in every_giving(order.piece_names(), order.house.studios)
                     for crews in every_giving(order.piece_names(), order.house.crews)]
            if found is None:
                days = days_of(order)
                self.assertTrue(any(all(is_kept(plan, day) for day in days) for plan in plans))
            elif found.word == "spots":
                rows = [group.row for group in found.jam.groups if group.row is not None]
                for plan in plans:
                    self.assertTrue(any(faults(plan, row) for row in rows))
            else:
                day = plain_events(order, found.row)
                self.assertFalse(any(is_kept(plan, day) for plan in plans))
        for word in [None, *WORDS]:
            self.assertIn(word, words)

    def test_each_word_alone(self):
        self.assertIsNone(trouble(stage(), {"cars": 2, "soap": 2}))
        for order, counts, word, name in [
                (stage(patience=2), {}, "swallowed", "gap"),
                (stage(minute=0), {}, "swallowed", "eve"),
                (stage(walk=(0, 3)), {}, "late", "two"),
                (stage(studios=1), {}, "studios", None),
                (stage(crews=1), {}, "crews", None),
                (stage(), {"cars": 3}, "spots", None)]:
            self.shows(order, counts, trouble(order, counts), word, name)

    def test_two_at_once(self):
        for order, counts, word, name in [
                (stage(patience=2, minute=0), {}, "swallowed", "gap"),
                (stage(patience=2, walk=(0, 3)), {}, "swallowed", "gap"),
                (stage(walk=(9, 9), crews=1), {}, "late", "one"),
                (stage(walk=(0, 3), studios=1), {}, "late", "two"),
                (stage(studios=1, crews=1), {}, "studios", None),
                (stage(crews=1), {"cars": 3}, "crews", None),
                (stage(studios=1), {"soap": 4}, "studios", None),
                (stage(patience=2), {"soap": 4}, "swallowed", "gap")]:
            self.shows(order, counts, trouble(order, counts), word, name)

    def test_limits(self):
        # The gap begins at 2 at the latest.
        self.assertIsNone(trouble(stage(patience=3), {}))
        self.shows(stage(patience=2), {}, trouble(stage(patience=2), {}), "swallowed", "gap")
        # The crew of two is called when one begins, two ticks before two begins.
        self.assertIsNone(trouble(stage(walk=(0, 2)), {}))
        self.shows(stage(walk=(0, 3)), {}, trouble(stage(walk=(0, 3)), {}), "late", "two")

    def test_without_items(self):
        order = Order(a_house(), 0, [])
        self.assertIsNone(trouble(order, {}))
        self.shows(order, {"cars": 1}, trouble(order, {"cars": 1}), "spots", None)
        self.assertIsNone(trouble(doc_order(), {"cars": 2}))

    def test_wide_orders(self):
        for order in [wide_order([1] * 8), wide_order([1] * 8, least=1),
                      wide_order([7, 3, 12, 5, 2, 30, 1, 9], breaks=(2, 5))]:
            found = trouble(order, {})
            self.shows(order, {}, found, found.word, found.name)

    def test_counts_come_first(self):
        order = stage(patience=2)
        for call in [trouble, lambda *args: check_trouble(*args, Trouble("x"))]:
            self.refuses(Unknown("tea"), call, order, {"cars": 61, "tea": 0})
            self.refuses(BadNumber(61), call, order, {"cars": 61, "soap": -1})
            self.refuses(BadNumber(-1), call, order, {"soap": -1})
        self.assertEqual(trouble(order, {"cars": 60}).word, "swallowed")

    def test_nothing_is_changed(self):
        order, counts = stage(studios=1), {"cars": 2}
        before = words_of(order)
        found = trouble(order, counts)
        found.row.clear()
        self.assertEqual(counts, {"cars": 2})
        self.assertEqual(words_of(order), before)
        self.shows(order, counts, trouble(order, counts), "studios", None)


class TestCheckTrouble(TroubleCase):
    def wrong(self, order, found, counts=None):
        self.assertIs(check_trouble(order, counts or {}, found), False)

    def right(self, order, found, counts=None):
        self.assertIs(check_trouble(order, counts or {}, found), True)

    def test_swallowed(self):
        order = stage(patience=2)
        row = [(2,), (0, 2, 0, 0), (0, 2, 0, 0), (0,)]
        self.right(order, Trouble("swallowed", name="gap", row=row))
        self.right(order, Trouble("swallowed", name="gap", row=row, moment=3, jam=3))
        self.wrong(stage(), Trouble("swallowed", name="gap", row=row))
        self.wrong(order, Trouble("swallowed", name="gap", row=[(1,), *row[1:]]))
        self.wrong(order, Trouble("swallowed", name="eve", row=row))
        for name in ["one", "x", None]:
            self.wrong(order, Trouble("swallowed", name=name, row=row))
        self.wrong(order, Trouble("swallowed", name="gap"))

    def test_late(self):
        order = stage(walk=(0, 3))
        row = [(0,), (0, 2, 0, 0), (0, 2, 3, 0), (0,)]
        self.right(order, Trouble("late", name="two", row=row))
        self.right(order, Trouble("late", name="two", row=row, moment=3, jam=3))
        self.wrong(order, Trouble("late", name="two", row=[(0,), (0, 2, 0, 0), (0, 2, 2, 0), (0,)]))
        self.wrong(order, Trouble("late", name="two", row=[(0,), (0, 3, 0, 0), (0, 2, 3, 0), (0,)]))
        for name in ["one", "gap", "x", None]:
            self.wrong(order, Trouble("late", name=name, row=row))
        self.wrong(order, Trouble("late", name="two"))

    def test_studios(self):
        order = stage(studios=1)
        row = [(0,), (0, 2, 0, 1), (0, 2, 0, 0), (0,)]
        # The crew of one is inside from 0 to 8, that of two from 6 to 9.
        self.assertEqual([run(order, row).inside(moment) for moment in [5, 6, 8, 9]],
                         [["one"], ["one", "two"], ["one", "two"], ["two"]])
        for moment in [6, 8]:
            self.right(order, Trouble("studios", row=row, moment=moment))
            self.right(order, Trouble("studios", row=row, moment=moment, name="x", jam=3))
            self.wrong(stage(studios=2), Trouble("studios", row=row, moment=moment))
        for moment in [5, 9, None]:
            self.wrong(order, Trouble("studios", row=row, moment=moment))
        self.wrong(order, Trouble("studios", moment=6))

    def test_crews(self):
        order = stage(crews=1, walk=(1, 1))
        row = [(0,), (0, 2, 1, 0), (0, 2, 1, 0), (0,)]
        # The crew of two is called at 6 and enters at 7.
        self.right(order, Trouble("crews", row=row, moment=6))
        self.assertEqual(run(order, row).inside(6), ["one"])
        self.right(order, Trouble("crews", row=row, moment=6, name="x", jam=3))
        self.wrong(stage(crews=2, walk=(1, 1)), Trouble("crews", row=row, moment=6))
        for moment in [5, 8, None]:
            self.wrong(order, Trouble("crews", row=row, moment=moment))
        self.wrong(order, Trouble("crews", moment=6))
        # The house has enough studios, so the same row and moment are no trouble of them.
        self.wrong(order, Trouble("studios", row=row, moment=7))

    def test_spots(self):
        order = stage()
        counts = {"cars": 3}
        jam = jam_of(order, counts)
        self.right(order, Trouble("spots", jam=jam), counts)
        self.right(order, Trouble("spots", jam=jam, name="x", row=[], moment=3), counts)
        self.wrong(order, Trouble("spots", jam=jam), {"cars": 2})
        self.wrong(order, Trouble("spots", jam=Jam(["cars"], 3, 1, jam.groups)), counts)
        self.wrong(order, Trouble("spots"), counts)

    def test_rows_that_do_not_fit(self):
        order = stage(patience=2, studios=1, crews=1, walk=(0, 3))
        row = [(2,), (0, 2, 0, 1), (0, 2, 3, 0), (0,)]
        for other in [[], row[:3], [*row, (0,)], [(3,), *row[1:]], [(2, 0), *row[1:]],
                      [(2,), (0, 2, 0), *row[2:]], [(2,), (0, 4, 0, 1), *row[2:]],
                      [*row[:2], (0, 2, 4, 0), (0,)], [*row[:2], (0, 2, 3, 2), (0,)]]:
            for word, name in [("swallowed", "gap"), ("late", "two"), ("studios", None), ("crews", None)]:
                self.wrong(order, Trouble(word, name=name, row=other, moment=9))
        for word, name in [("swallowed", "gap"), ("late", "two"), ("crews", None)]:
            self.right(order, Trouble(word, name=name, row=row, moment=9))

    def test_strange_words(self):
        order = stage(patience=2, studios=1, crews=1, walk=(0, 3))
        row = [(2,), (0, 2, 0, 1), (0, 2, 3, 0), (0,)]
        jam = jam_of(order, {"cars": 3})
        for word in ["", "Late", "late ", "good", "spot", "near", "busy"]:
            self.wrong(order, Trouble(word, name="two", row=row, moment=9, jam=jam), {"cars": 3})

    def test_earlier_reasons_need_not_be_absent(self):
        order = stage(patience=2, studios=1, crews=1, walk=(0, 3))
        row = [(2,), (0, 2, 0, 1), (0, 2, 3, 0), (0,)]
        self.assertEqual(trouble(order, {"cars": 3}).word, "swallowed")
        self.right(order, Trouble("late", name="two", row=row))
        self.right(order, Trouble("crews", row=row, moment=9))
        self.right(order, Trouble("spots", jam=jam_of(order, {"cars": 3})), {"cars": 3})

    def test_against_all_rows(self):
        rng = random.Random("by hand")
        answers = {True: 0, False: 0}
        for order in plan_orders("by hand", 40, 30):
            names = [*[item.name for item in order], None, "zz"]
            for (row, day), name in itertools.product(zip(rows_of(order), days_of(order)), names):
                moment = rng.randrange(-2, 25)
                for word in WORDS[:4]:
                    answer = check_trouble(order, {}, Trouble(word, name=name, row=row, moment=moment))
                    self.assertIs(answer, plain_check(order, day, word, name, moment))
                    answers[answer] += 1
        self.assertGreater(min(answers.values()), 150)

    def test_without_items(self):
        order = Order(a_house(), 0, [])
        for word in WORDS:
            self.wrong(order, Trouble(word, name="a", row=[], moment=0))
        order = Order(a_house(), 0, [a_break("noon", minute=0), a_piece("a")])
        self.wrong(order, Trouble("swallowed", name="noon", row=[]))

    def test_nothing_is_changed(self):
        order, counts, row = stage(patience=2), {"cars": 1}, [(2,), (0, 2, 0, 0), (0, 2, 0, 0), (0,)]
        found = Trouble("swallowed", name="gap", row=row)
        check_trouble(order, counts, found)
        self.assertEqual((counts, found.row), ({"cars": 1}, row))
        self.assertEqual(words_of(order), words_of(stage(patience=2)))


def rows_of(order):
    return list(Outlook(order).rows())


def plain_check(order, day, word, name, moment):
    """Whether what the word says is true of these attributes."""
    if word == "swallowed":
        return name in order.break_names() and day["begin", name] > order[name].limit
    if word == "late":
        return name in order.piece_names() and day["enter", name] > day["begin", name]
    if word == "studios":
        return len(taken(order, day, "enter", moment)) > order.house.studios
    return len(taken(order, day, "call", moment)) > order.house.crews


class TestTroublesAndPlans(TroubleCase):
    def test_a_plan_of_an_order_in_trouble_is_broken(self):
        order = stage(studios=1)
        for crew in [0, 1]:
            plan = Plan(order, studios={"one": 0, "two": 0}, crews={"one": 0, "two": crew})
            before = plan_state(plan)
            self.assertFalse(judge(plan))
            words = [fault[0] for fault in faults(plan, trouble(order, {}).row)]
            self.assertIn("meet", words)
            self.assertEqual(plan_state(plan), before)

    def test_example(self):
        small = House(1, 2, walk=(0, 3), pack=(2, 4))
        slot = Break("slot", grid=Grid(10), minute=10, places=1, unit=10)
        chat = Piece("chat", grid=Grid(1), least=5, most=8)
        song = Piece("song", grid=Grid(1), least=6, most=6)
        full = Order(small, 0, [slot, chat, song])
        self.shows(full, {}, trouble(full, {}), "studios", None)


if __name__ == "__main__":
    unittest.main()
