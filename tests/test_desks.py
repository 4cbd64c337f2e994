"""Points 72 to 75: a desk, and the deeds that say what happens or change the plan."""

import random
import unittest

from barbreaks.breaches import Breach
from barbreaks.desks import Desk
from barbreaks.errors import (BadNumber, BadWord, Begun, NoItem, NotYet, OffAir, OnAir, Outside,
                              Refused, Told, Unknown, Unsafe)
from barbreaks.faults import faults
from barbreaks.grids import Grid
from barbreaks.items import Break, Piece
from barbreaks.making import make_plan
from barbreaks.orders import Order
from barbreaks.outlooks import Outlook
from barbreaks.plans import Plan
from tests.desk_days import a_desk, calm_orders, days_left, desk_order, desk_plan, keeps, state_of
from tests.helpers import Case, a_house, lags_of
from tests.plan_days import plan_state, words_of
from tests.trouble_days import stage

UP_TO_EVE = [("press", 0), ("finish",), ("press", 0), ("finish",)]


class DeskCase(Case):
    def keeps_state(self, desk, expected, call, *args):
        """The call is refused and leaves the desk as it was."""
        before = state_of(desk)
        self.refuses(expected, call, *args)
        self.assertEqual(state_of(desk), before)

    def unsafe(self, desk, plan, call, *args):
        """The deed is refused since some row that can still come breaks the new plan."""
        before = state_of(desk)
        outlook = desk.outlook.carried(plan.order)
        with self.assertRaises(Unsafe) as caught:
            call(*args)
        breach = caught.exception.breach
        self.assertIs(type(breach), Breach)
        self.assertIn(breach.row, outlook)
        self.assertEqual(outlook.lateness_of(breach.row), breach.lateness)
        demand = (breach.demand.word, breach.demand.first, breach.demand.second)
        self.assertIn(demand, [fault[:3] for fault in faults(plan, breach.row)])
        self.assertEqual(state_of(desk), before)
        return breach


class TestDesk(DeskCase):
    def test_at_first(self):
        plan = desk_plan()
        desk = Desk(plan)
        self.assertIs(desk.plan, plan)
        self.assertIs(type(desk.outlook), Outlook)
        self.assertTrue(Outlook(plan.order).within(desk.outlook) and desk.outlook.within(Outlook(plan.order)))
        self.assertIs(desk.outlook.order, plan.order)
        self.assertEqual((desk.point, desk.moments, desk.deeds, list(desk)), (0, [0], [], []))
        self.assertEqual(desk.left(), ["noon", "talk", "eve", "song", "tune"])

    def test_plans_that_are_not_safe(self):
        plan = desk_plan().with_studio("tune", 1)
        with self.assertRaises(Unsafe) as caught:
            Desk(plan)
        breach = caught.exception.breach
        self.assertEqual((breach.demand.word, breach.lateness), ("meet", 0))
        self.assertIn("meet", [fault[0] for fault in faults(plan, breach.row)])
        self.assertTrue(issubclass(Unsafe, Refused))

    def test_without_items(self):
        desk = Desk(Plan(Order(a_house(), 7, []), studios={}, crews={}))
        self.assertEqual((desk.moments, desk.left(), desk.margin()), ([7], [], None))
        self.keeps_state(desk, NoItem(), desk.press, 0)
        self.keeps_state(desk, OffAir(), desk.finish)


class TestPressAndFinish(DeskCase):
    def test_the_whole_day(self):
        desk = a_desk()
        told = [desk.press(1), desk.finish(), desk.press(0), desk.finish(7), desk.press(0), desk.finish(8),
                desk.press(1), desk.finish(5), desk.press(0), desk.finish(None)]
        self.assertEqual(told, [3, 13, 13, 20, 20, 28, 29, 34, 34, 37])
        self.assertEqual((desk.moments, desk.point), ([0, *told], 10))
        self.assertEqual(desk.left(), [])
        self.assertEqual([desk.outlook.span_of(name, word).size for name, word in lags_of(desk_order())
                          if word in ["delay", "length"]], [1] * 8)
        self.assertEqual(desk.deeds, [("press", 1), ("finish", 10), ("press", 0), ("finish", 7), ("press", 0),
                                      ("finish", 8), ("press", 1), ("finish", 5), ("press", 0), ("finish", 3)])
        self.keeps_state(desk, NoItem(), desk.press, 0)
        self.keeps_state(desk, OffAir(), desk.finish)

    def test_press_narrows_the_outlook(self):
        desk = a_desk()
        self.assertEqual(desk.press(2), 4)
        span = desk.outlook.span_of("noon", "delay")
        self.assertEqual((span.low, span.high), (2, 2))
        self.assertEqual((desk.point, desk.moments), (1, [0, 4]))
        self.assertEqual(desk.left(), ["talk", "eve", "song", "tune"])
        self.assertEqual(desk.outlook.span_of("song", "delay").size, 2)

    def test_checks_of_press(self):
        desk = a_desk()
        for delay in [-1, 3]:
            self.keeps_state(desk, Outside("delay"), desk.press, delay)
        desk.press(0)
        for delay in [0, 9]:
            self.keeps_state(desk, OnAir("noon"), desk.press, delay)
        desk.finish()
        self.keeps_state(desk, Outside("delay"), desk.press, 1)
        desk.press(0)
        self.keeps_state(desk, OnAir("talk"), desk.press, 9)
        desk = a_desk(*UP_TO_EVE, ("press", 0), ("finish",), ("press", 0), ("finish",), ("press", 0))
        self.keeps_state(desk, OnAir("tune"), desk.press, 9)
        desk.finish()
        self.keeps_state(desk, NoItem(), desk.press, 9)

    def test_press_after_news(self):
        desk = a_desk(("expect", "noon", "delay", 1, 2))
        self.keeps_state(desk, Outside("delay"), desk.press, 0)
        self.assertEqual(desk.press(1), 3)

    def test_finish_a_piece(self):
        for length, end, number in [(None, 18, 6), (6, 18, 6), (8, 20, 8)]:
            desk = a_desk(("press", 0), ("finish",), ("press", 0))
            self.assertEqual(desk.finish(length), end)
            self.assertEqual(desk.deeds[-1], ("finish", number))
            span = desk.outlook.span_of("talk", "length")
            self.assertEqual((span.low, span.high), (number, number))
        desk = a_desk(("press", 0), ("finish",), ("press", 0))
        self.assertEqual(desk.finish(), 18)

    def test_finish_a_piece_after_news(self):
        desk = a_desk(("press", 0), ("finish",), ("press", 0), ("expect", "talk", "length", 7, 8))
        self.keeps_state(desk, Outside("length"), desk.finish, 6)
        self.assertEqual(desk.finish(), 19)
        self.assertEqual(desk.deeds[-1], ("finish", 7))

    def test_finish_a_break(self):
        for rest in [[], [None], [10]]:
            desk = a_desk(("press", 0))
            self.assertEqual(desk.finish(*rest), 12)
            self.assertEqual(desk.deeds[-1], ("finish", 10))
            self.assertEqual((desk.point, desk.moments), (2, [0, 2, 12]))

    def test_checks_of_finish(self):
        desk = a_desk()
        for length in [None, 10, 99]:
            self.keeps_state(desk, OffAir(), desk.finish, length)
        desk.press(0)
        for length in [9, 11, 0]:
            self.keeps_state(desk, Outside("length"), desk.finish, length)
        desk.finish()
        self.keeps_state(desk, OffAir(), desk.finish, 6)
        desk.press(0)
        for length in [5, 9]:
            self.keeps_state(desk, Outside("length"), desk.finish, length)


class TestTelling(DeskCase):
    def test_walked(self):
        desk = a_desk(("press", 1))
        # The crew of talk was called at 3.
        self.assertEqual(desk.walked("talk", 2), 5)
        span = desk.outlook.span_of("talk", "walk")
        self.assertEqual((span.low, span.high), (2, 2))
        self.assertEqual(desk.deeds[-1], ("walked", "talk", 2))
        self.assertEqual((desk.point, desk.moments), (1, [0, 3]))

    def test_checks_of_walked(self):
        desk = a_desk()
        for name in ["noon", "x"]:
            self.keeps_state(desk, Unknown(name), desk.walked, name, 9)
        self.keeps_state(desk, NotYet("talk"), desk.walked, "talk", 0)
        self.keeps_state(desk, NotYet("talk"), desk.walked, "talk", 9)
        desk.press(0)
        for ticks in [-1, 3]:
            self.keeps_state(desk, Outside("walk"), desk.walked, "talk", ticks)
        desk.walked("talk", 1)
        for ticks in [1, 9]:
            self.keeps_state(desk, Told("talk"), desk.walked, "talk", ticks)
        self.keeps_state(desk, NotYet("song"), desk.walked, "song", 1)

    def test_walked_after_news(self):
        desk = a_desk(("expect", "talk", "walk", 1, 1), ("press", 0))
        self.keeps_state(desk, Outside("walk"), desk.walked, "talk", 0)
        self.assertEqual(desk.walked("talk", 1), 3)
        self.keeps_state(desk, Told("talk"), desk.walked, "talk", 1)

    def test_walked_when_the_call_is_the_opening(self):
        order = Order(a_house(walk=(0, 0), ahead=2), 4, [Piece(name, grid=Grid(1), least=2, most=2)
                                                          for name in ["a", "b", "c"]])
        desk = Desk(make_plan(order, {}))
        self.assertEqual([desk.walked("a", 0), desk.walked("b", 0)], [4, 4])
        self.keeps_state(desk, NotYet("c"), desk.walked, "c", 0)

    def test_packed(self):
        desk = a_desk(*UP_TO_EVE)
        self.assertEqual(desk.packed("talk", 3), 21)
        span = desk.outlook.span_of("talk", "pack")
        self.assertEqual((span.low, span.high), (3, 3))
        self.assertEqual(desk.deeds[-1], ("packed", "talk", 3))
        self.assertEqual((desk.point, desk.moments), (4, [0, 2, 12, 12, 18]))

    def test_checks_of_packed(self):
        desk = a_desk(("press", 0), ("finish",), ("press", 0))
        for name in ["noon", "x"]:
            self.keeps_state(desk, Unknown(name), desk.packed, name, 9)
        self.keeps_state(desk, NotYet("talk"), desk.packed, "talk", 9)
        desk.finish()
        for ticks in [-1, 4]:
            self.keeps_state(desk, Outside("pack"), desk.packed, "talk", ticks)
        desk.packed("talk", 0)
        for ticks in [0, 9]:
            self.keeps_state(desk, Told("talk"), desk.packed, "talk", ticks)
        self.assertEqual(desk.walked("talk", 0), 2)

    def test_expect(self):
        desk = a_desk()
        for name, word, low, high in [("noon", "delay", 0, 2), ("talk", "length", 7, 8), ("song", "walk", 1, 1),
                                      ("tune", "pack", 0, 2), ("song", "delay", 0, 0), ("talk", "length", 7, 7)]:
            self.assertIsNone(desk.expect(name, word, low, high))
            span = desk.outlook.span_of(name, word)
            self.assertEqual((span.low, span.high), (low, high))
            self.assertEqual(desk.deeds[-1], ("expect", name, word, low, high))
        self.assertEqual((desk.point, desk.moments, len(desk.deeds)), (0, [0], 6))

    def test_checks_of_expect(self):
        desk = a_desk()
        self.keeps_state(desk, Unknown("x"), desk.expect, "x", "x", 9, 0)
        for name, word in [("noon", "length"), ("noon", "walk"), ("eve", "pack"), ("talk", "x"), ("talk", "")]:
            self.keeps_state(desk, BadWord(word), desk.expect, name, word, 9, 0)
        for name, word, low, high in [("noon", "delay", 2, 1), ("noon", "delay", 0, 3), ("noon", "delay", -1, 1),
                                      ("talk", "length", 5, 6), ("talk", "length", 8, 9), ("song", "walk", 3, 3),
                                      ("song", "pack", 2, 1)]:
            self.keeps_state(desk, Outside(word), desk.expect, name, word, low, high)

    def test_told_lags_are_not_expected(self):
        desk = a_desk(("press", 0))
        self.keeps_state(desk, Told("noon"), desk.expect, "noon", "delay", 0, 0)
        self.keeps_state(desk, Told("noon"), desk.expect, "noon", "delay", 9, 0)
        desk.expect("talk", "walk", 0, 1)
        desk.walked("talk", 0)
        self.keeps_state(desk, Told("talk"), desk.expect, "talk", "walk", 0, 0)
        desk.expect("talk", "pack", 1, 2)
        desk.finish()
        desk.expect("talk", "delay", 0, 0)
        desk.press(0)
        self.keeps_state(desk, Told("talk"), desk.expect, "talk", "delay", 0, 0)
        desk.expect("talk", "length", 6, 7)
        desk.finish()
        self.keeps_state(desk, Told("talk"), desk.expect, "talk", "length", 6, 6)
        desk.expect("talk", "pack", 1, 1)
        desk.packed("talk", 1)
        self.keeps_state(desk, Told("talk"), desk.expect, "talk", "pack", 1, 1)
        # Breaks have no other lag than the delay, whatever is known of them.
        for word in ["length", "walk", "pack"]:
            self.keeps_state(desk, BadWord(word), desk.expect, "noon", word, 10, 10)
        # A lag is told of one piece alone.
        desk.expect("song", "walk", 0, 0)
        desk.expect("song", "pack", 0, 0)


class TestChanges(DeskCase):
    def test_put(self):
        desk = a_desk()
        order = desk.plan.order
        self.assertIsNone(desk.put("noon", 1, "soap"))
        self.assertEqual(desk.plan.sheet.entries_of("noon"), ("cars", "soap"))
        self.assertIs(desk.plan.order, order)
        self.assertIsNone(desk.put("eve", 0, None))
        self.assertEqual(desk.plan.sheet.entries_of("eve"), (None, "soap"))
        self.assertEqual(desk.deeds, [("put", "noon", 1, "soap"), ("put", "eve", 0, None)])

    def test_checks_of_put(self):
        desk = a_desk(("press", 0))
        self.keeps_state(desk, Unknown("talk"), desk.put, "talk", 9, "tea")
        for name in ["noon", "eve"]:
            for place in [-1, 2]:
                self.keeps_state(desk, BadNumber(place), desk.put, name, place, "tea")
            self.keeps_state(desk, Unknown("tea"), desk.put, name, 0, "tea")
        self.keeps_state(desk, Begun("noon"), desk.put, "noon", 0, None)
        desk.put("eve", 1, None)
        plan = desk.plan.with_spot("eve", 1, "cars")
        self.assertEqual(self.unsafe(desk, plan, desk.put, "eve", 1, "cars").demand.word, "near")

    def test_begun_comes_before_unsafe(self):
        desk = a_desk(("press", 0))
        self.keeps_state(desk, Begun("noon"), desk.put, "noon", 1, "cars")

    def test_room_and_staff(self):
        desk = a_desk()
        self.assertIsNone(desk.room("tune", 0))
        self.assertIsNone(desk.staff("tune", 0))
        self.assertEqual((desk.plan.studios, desk.plan.crews),
                         ({"talk": 0, "song": 1, "tune": 0}, {"talk": 0, "song": 1, "tune": 0}))
        self.assertEqual(desk.deeds, [("room", "tune", 0), ("staff", "tune", 0)])

    def test_checks_of_room_and_staff(self):
        desk = a_desk(("press", 0))
        for call in [desk.room, desk.staff]:
            for name in ["noon", "x"]:
                self.keeps_state(desk, Unknown(name), call, name, 9)
            for name in ["talk", "song"]:
                for number in [-1, 3]:
                    self.keeps_state(desk, BadNumber(number), call, name, number)
            # The crew of talk was called when noon began.
            self.keeps_state(desk, Begun("talk"), call, "talk", 1)
        breach = self.unsafe(desk, desk.plan.with_studio("song", 2), desk.room, "song", 2)
        self.assertEqual(breach.demand.word, "meet")
        breach = self.unsafe(desk, desk.plan.with_crew("tune", 1), desk.staff, "tune", 1)
        self.assertEqual(breach.demand.word, "busy")

    def test_what_can_no_longer_come_is_no_reason(self):
        # talk may be out after the crew of song is called, unless it ends in time.
        desk = a_desk(("press", 0), ("finish",), ("press", 0))
        plan = desk.plan.with_studio("song", 0)
        self.unsafe(desk, plan, desk.room, "song", 0)
        desk.finish(6)
        self.unsafe(desk, plan, desk.room, "song", 0)
        desk.packed("talk", 2)
        desk.room("song", 0)
        self.assertEqual(desk.plan.studios["song"], 0)
        # At 21 it would be one tick later than the call.
        desk = a_desk(*UP_TO_EVE, ("packed", "talk", 3))
        self.unsafe(desk, plan, desk.room, "song", 0)

    def test_retime(self):
        desk = a_desk()
        self.assertIsNone(desk.retime("eve", 24))
        self.assertEqual(desk.plan.order["eve"].minute, 24)
        self.assertEqual(desk.plan.order["eve"].limit, 30)
        self.assertEqual(desk.deeds, [("retime", "eve", 24)])
        self.assertIs(desk.outlook.order, desk.plan.order)
        self.assertEqual(desk.press(0), 2)

    def test_checks_of_retime(self):
        desk = a_desk(("press", 0))
        for name in ["talk", "x"]:
            self.keeps_state(desk, Unknown(name), desk.retime, name, 3)
        self.keeps_state(desk, Begun("noon"), desk.retime, "noon", 2)
        # With minute 15 the limit is 20, and eve must not begin later.
        plan = desk.plan.with_order(desk.plan.order.retimed("eve", 15))
        desk.finish()
        desk.press(0)
        self.assertTrue(keeps(plan, desk.outlook))
        desk.retime("eve", 15)
        desk = a_desk(("press", 2), ("finish",), ("press", 0))
        self.assertEqual(self.unsafe(desk, plan, desk.retime, "eve", 15).demand.word, "swallowed")
        desk.finish(6)
        desk.retime("eve", 15)
        self.assertEqual(desk.press(0), 20)
        self.keeps_state(desk, Begun("eve"), desk.retime, "eve", 20)

    def test_swap(self):
        desk = a_desk()
        self.assertIsNone(desk.swap("song", "tune"))
        self.assertEqual(desk.plan.order.piece_names(), ["talk", "tune", "song"])
        self.assertEqual(list(desk.plan.studios.items()), [("talk", 0), ("tune", 2), ("song", 1)])
        self.assertEqual(desk.deeds, [("swap", "song", "tune")])
        self.assertIsNone(desk.swap("song", "song"))
        self.assertEqual(desk.plan.order.piece_names(), ["talk", "tune", "song"])

    def test_swap_keeps_the_news_of_each_piece(self):
        desk = a_desk(("expect", "song", "length", 5, 5), ("expect", "tune", "pack", 1, 2))
        desk.swap("song", "tune")
        spans = [desk.outlook.span_of("song", "length"), desk.outlook.span_of("tune", "pack")]
        self.assertEqual([(span.low, span.high) for span in spans], [(5, 5), (1, 2)])

    def test_checks_of_swap(self):
        desk = a_desk()
        self.keeps_state(desk, Unknown("noon"), desk.swap, "noon", "x")
        self.keeps_state(desk, Unknown("x"), desk.swap, "talk", "x")
        desk.press(0)
        self.keeps_state(desk, Unknown("eve"), desk.swap, "talk", "eve")
        self.keeps_state(desk, Begun("talk"), desk.swap, "talk", "song")
        self.keeps_state(desk, Begun("talk"), desk.swap, "song", "talk")
        self.keeps_state(desk, Begun("talk"), desk.swap, "talk", "talk")
        for deed in [("finish",), ("press", 0), ("finish",), ("press", 0)]:
            getattr(desk, deed[0])(*deed[1:])
        self.keeps_state(desk, Begun("song"), desk.swap, "song", "talk")
        self.keeps_state(desk, Begun("song"), desk.swap, "tune", "song")
        self.assertIsNone(desk.swap("tune", "tune"))

    def test_swap_that_some_row_breaks(self):
        order = Order(a_house(walk=(0, 0)), 0, [
            Piece("a", grid=Grid(1), least=2, most=2), Piece("b", grid=Grid(1), least=3, most=9),
            Break("gap", grid=Grid(1), minute=0, places=1, unit=1, patience=12),
            Piece("c", grid=Grid(1), least=2, most=10)])
        desk = Desk(Plan(order, studios={"a": 0, "b": 1, "c": 2}, crews={"a": 0, "b": 1, "c": 2}))
        plan = desk.plan.with_order(order.swapped("b", "c"))
        self.assertEqual(self.unsafe(desk, plan, desk.swap, "b", "c").demand.word, "swallowed")
        desk.expect("c", "length", 2, 9)
        desk.swap("b", "c")
        self.assertEqual(desk.plan.order.piece_names(), ["a", "c", "b"])

    def test_space(self):
        desk = a_desk()
        self.assertIsNone(desk.space(16))
        self.assertEqual((desk.plan.order.house.apart, desk.deeds), (16, [("space", 16)]))
        for ticks in [0, -1]:
            self.keeps_state(desk, BadNumber(ticks), desk.space, ticks)
        # The spots of noon and eve are 16 ticks apart if noon begins at 4.
        plan = desk.plan.with_order(desk.plan.order.with_house(desk.plan.order.house.with_apart(17)))
        self.assertEqual(self.unsafe(desk, plan, desk.space, 17).demand.word, "near")
        desk.press(0)
        desk.space(18)

    def test_against_all_rows(self):
        # Random deeds; those that change the plan are refused exactly if some row breaks it.
        rng = random.Random("desk")
        answers = {True: 0, False: 0}
        for order in calm_orders("desk", 100, 40):
            desk = Desk(make_plan(order, {}))
            for _ in range(25):
                self.random_deed(rng, desk, answers)
                self.assertTrue(keeps(desk.plan, desk.outlook))
                for day in days_left(desk.plan, desk.outlook):
                    points = [order.opens]
                    for item in desk.plan.order:
                        points.extend([day["begin", item.name], day["end", item.name]])
                    self.assertEqual(points[:desk.point + 1], desk.moments)
        self.assertGreater(min(answers.values()), 80)

    def random_deed(self, rng, desk, answers):
        deed = rng.choice([self.happens, *[self.changes] * 4])
        before = state_of(desk)
        try:
            deed(rng, desk, answers)
        except Refused:
            self.assertEqual(state_of(desk), before)

    def happens(self, rng, desk, answers):
        """Something happens or is told; no margin ever gets less (the fact of point 78)."""
        before = desk.margin()
        pieces = desk.plan.order.piece_names()
        word = rng.choice(["press", "finish", "walked", "packed", "expect"])
        if word == "press":
            name = (desk.left() or [None])[0]
            if name is not None:
                span = desk.outlook.span_of(name, "delay")
                desk.press(rng.randint(span.low, span.high))
        elif word == "finish":
            desk.finish()
        elif word == "expect":
            lags = lags_of(desk.plan.order)
            if lags:
                name, lag = rng.choice(lags)
                span = desk.outlook.span_of(name, lag)
                low = rng.randint(span.low, span.high)
                desk.expect(name, lag, low, rng.randint(low, span.high))
        elif pieces:
            name = rng.choice(pieces)
            span = desk.outlook.span_of(name, {"walked": "walk", "packed": "pack"}[word])
            getattr(desk, word)(name, rng.randint(span.low, span.high))
        if before is not None:
            self.assertGreaterEqual(desk.margin(), before)

    def changes(self, rng, desk, answers):
        """A change of the plan, and whether all rows that can still come keep the new plan."""
        plan, order = desk.plan, desk.plan.order
        pieces, breaks = order.piece_names(), order.break_names()
        word = rng.choice(["put", "room", "staff", "retime", "swap", "space"])
        if word == "space":
            ticks = rng.randint(1, 20)
            rest, other = (ticks,), plan.with_order(order.with_house(order.house.with_apart(ticks)))
        elif word in ["put", "retime"]:
            if not breaks:
                return
            name = rng.choice(breaks)
            if word == "put":
                place = rng.randrange(order[name].places)
                rest = (name, place, rng.choice([None, "cars", "cars", "cars", "soap"]))
                other = plan.with_spot(*rest)
            else:
                rest = (name, order[name].minute + rng.randint(-9, 5))
                other = plan.with_order(order.retimed(*rest))
        else:
            if not pieces:
                return
            name = rng.choice(pieces)
            if word == "swap":
                rest = (name, rng.choice(pieces))
                other = plan.with_order(order.swapped(*rest))
            elif word == "room":
                rest = (name, rng.randrange(order.house.studios))
                other = plan.with_studio(*rest)
            else:
                rest = (name, rng.randrange(order.house.crews))
                other = plan.with_crew(*rest)
        try:
            self.assertIsNone(getattr(desk, word)(*rest))
        except Begun as error:
            self.assertTrue(self.is_begun(order, desk.point, word, error.name))
            raise
        except Unsafe:
            answers[False] += 1
            self.assertFalse(keeps(other, desk.outlook))
            raise
        answers[True] += 1
        self.assertTrue(keeps(other, desk.outlook))
        self.assertEqual((plan_state(desk.plan), words_of(desk.plan.order)),
                         (plan_state(other), words_of(other.order)))
        self.assertEqual(desk.deeds[-1], (word, *rest))

    def is_begun(self, order, point, word, name):
        return point >= (order.begin_of(name) if word in ["put", "retime"] else order.call_of(name))


class TestStage(DeskCase):
    def test_plan_of_a_stage(self):
        order = stage()
        desk = Desk(make_plan(order, {"cars": 2}))
        self.assertEqual([desk.press(2), desk.finish(), desk.press(0), desk.finish(3)], [2, 8, 8, 11])
        self.assertEqual(desk.left(), ["two", "eve"])
        self.keeps_state(desk, Begun("two"), desk.room, "two", 0)
        self.assertEqual(words_of(order), words_of(stage()))


if __name__ == "__main__":
    unittest.main()
