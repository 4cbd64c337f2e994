"""Points 76 to 78: undo, attempts, deeds as tuples, and questions to a desk."""

import random
import unittest

from barbreaks.desks import Desk
from barbreaks.errors import (BadEvent, BadNumber, BadWord, BarbreaksError, Begun, NotYet,
                              NothingToUndo, OffAir, OnAir, Outside, Told, Unknown, Unsafe)
from barbreaks.events import all_events, point_of
from barbreaks.grids import Grid
from barbreaks.items import Break
from barbreaks.judging import margins
from barbreaks.making import make_plan
from barbreaks.orders import Order
from barbreaks.plans import Plan
from tests.desk_days import a_desk, calm_orders, days_left, desk_plan, state_of
from tests.helpers import Case, a_house, doc_order, lags_of

DAY = [("press", 1), ("walked", "talk", 2), ("expect", "song", "length", 4, 4), ("finish",),
       ("put", "eve", 1, None), ("press", 0), ("room", "tune", 0), ("finish", 7), ("packed", "talk", 0),
       ("staff", "tune", 0), ("retime", "eve", 18), ("space", 15), ("swap", "song", "tune")]


def some_deed(rng, desk):
    """A deed that may be refused, as a tuple."""
    order = desk.plan.order
    pieces, breaks = order.piece_names() or ["zz"], order.break_names() or ["zz"]
    lags = lags_of(order) or [("zz", "delay")]
    small = rng.randrange(3)
    return rng.choice([
        ("press", rng.choice([0, 0, 0, 1])), ("press", 0), ("finish",), ("finish", None),
        ("finish", rng.randrange(2, 9)), ("walked", rng.choice(pieces), small),
        ("packed", rng.choice(pieces), small), ("expect", *rng.choice(lags), 0, small),
        ("put", rng.choice(breaks), small, rng.choice([None, "cars"])), ("room", rng.choice(pieces), small),
        ("staff", rng.choice(pieces), small), ("retime", rng.choice(breaks), rng.randrange(40)),
        ("swap", rng.choice(pieces), rng.choice(pieces)), ("space", rng.randrange(1, 9)), ("undo",)])


def done(desk, deed):
    """Does a deed by its method; returns its result."""
    return getattr(desk, deed[0])(*deed[1:])


class AttemptCase(Case):
    def keeps_state(self, desk, expected, call, *args):
        """The call is refused and leaves the desk as it was."""
        before = state_of(desk)
        self.refuses(expected, call, *args)
        self.assertEqual(state_of(desk), before)


class TestUndo(AttemptCase):
    def test_without_deeds(self):
        desk = a_desk()
        self.keeps_state(desk, NothingToUndo(), desk.undo)
        desk.press(0)
        desk.undo()
        self.keeps_state(desk, NothingToUndo(), desk.undo)

    def test_each_deed_is_taken_back(self):
        desk = a_desk()
        states = [state_of(desk)]
        for deed in DAY:
            done(desk, deed)
            states.append(state_of(desk))
        self.assertEqual(len(desk.deeds), len(DAY))
        for state in states[-2::-1]:
            self.assertIsNone(desk.undo())
            self.assertEqual(state_of(desk), state)
        self.keeps_state(desk, NothingToUndo(), desk.undo)

    def test_is_not_a_deed(self):
        desk = a_desk(("press", 0), ("finish",))
        desk.undo()
        self.assertEqual((desk.deeds, desk.point, desk.moments), ([("press", 0)], 1, [0, 2]))
        self.assertEqual(desk.finish(), 12)

    def test_plan_and_outlook_are_back(self):
        desk = a_desk()
        plan, outlook = desk.plan, desk.outlook
        desk.retime("eve", 18)
        desk.press(0)
        desk.undo()
        desk.undo()
        self.assertIs(desk.plan, plan)
        self.assertIs(desk.outlook.order, outlook.order)

    def test_what_was_told_is_forgotten(self):
        desk = a_desk(("press", 0), ("walked", "talk", 1))
        self.refuses(Told("talk"), desk.walked, "talk", 1)
        desk.undo()
        self.assertEqual(desk.walked("talk", 2), 4)

    def test_refused_deeds_are_not_taken_back(self):
        desk = a_desk(("press", 0))
        self.refuses(OnAir("noon"), desk.press, 0)
        desk.undo()
        self.assertEqual((desk.point, desk.deeds), (0, []))

    def test_an_attempt_is_taken_back_as_one(self):
        desk = a_desk(("press", 0))
        before = state_of(desk)
        desk.attempt([("finish",), ("press", 0), ("walked", "talk", 1)])
        desk.undo()
        self.assertEqual(state_of(desk), before)
        desk.undo()
        self.keeps_state(desk, NothingToUndo(), desk.undo)


class TestAttempt(AttemptCase):
    def test_results(self):
        desk = a_desk()
        self.assertEqual(desk.attempt(DAY), [3, 5, None, 13, None, 13, None, 20, 20, None, None, None, None])
        self.assertEqual(desk.deeds, [("attempt", tuple(("finish", 10) if deed == ("finish",) else deed
                                                        for deed in DAY))])
        one_by_one = a_desk(*DAY)
        self.assertEqual(state_of(desk)[:6], state_of(one_by_one)[:6])
        self.assertEqual(state_of(desk)[8:], state_of(one_by_one)[8:])

    def test_deeds_in_a_tuple(self):
        desk = a_desk()
        deeds = (("press", 0), ("finish", None))
        self.assertEqual(desk.attempt(deeds), [2, 12])
        self.assertEqual(desk.deeds, [("attempt", (("press", 0), ("finish", 10)))])
        self.assertEqual(deeds, (("press", 0), ("finish", None)))

    def test_the_empty_attempt_is_a_deed(self):
        desk = a_desk()
        before = state_of(desk)
        self.assertEqual(desk.attempt([]), [])
        self.assertEqual(desk.deeds, [("attempt", ())])
        self.assertEqual(state_of(desk)[:6], before[:6])
        desk.undo()
        self.assertEqual(state_of(desk), before)

    def test_wrong_words(self):
        desk = a_desk(("press", 0))
        for word in ["x", "", "undo", "attempt", "known", "margin", "left", "spacing", "plan", "Press", "_keep"]:
            self.keeps_state(desk, BadWord(word), desk.attempt, [(word,)])
            self.keeps_state(desk, BadWord(word), desk.attempt, [("finish",), (word, 1)])

    def test_wrong_numbers_of_entries(self):
        desk = a_desk()
        right = {"press": [1], "finish": [0, 1], "walked": [2], "packed": [2], "expect": [4], "put": [3],
                 "room": [2], "staff": [2], "retime": [2], "swap": [2], "space": [1]}
        for word, counts in right.items():
            for count in range(6):
                deed = (word, *[99] * count)
                if count not in counts:
                    self.keeps_state(desk, BadWord(word), desk.attempt, [deed])
                else:
                    with self.assertRaises(BarbreaksError) as caught:
                        desk.attempt([deed])
                    self.assertNotIsInstance(caught.exception, BadWord)

    def test_refused_in_the_middle(self):
        desk = a_desk(("press", 0))
        for deeds, expected in [
                ([("finish",), ("press", 5)], Outside("delay")),
                ([("finish",), ("finish",)], OffAir()),
                ([("finish",), ("walked", "talk", 1), ("walked", "talk", 1)], Told("talk")),
                ([("put", "eve", 1, None), ("room", "talk", 2)], Begun("talk")),
                ([("space", 15), ("retime", "noon", 3)], Begun("noon")),
                ([("finish",), ("press", 0), ("packed", "talk", 1)], NotYet("talk")),
                ([("swap", "song", "tune"), ("put", "eve", 2, None)], BadNumber(2)),
                ([("finish",), ("expect", "x", "y", 0, 0)], Unknown("x")),
                ([("finish",), ("press",), ("x",)], BadWord("press"))]:
            self.keeps_state(desk, expected, desk.attempt, deeds)

    def test_a_word_is_judged_when_its_turn_comes(self):
        desk = a_desk()
        self.keeps_state(desk, OffAir(), desk.attempt, [("finish",), ("x",)])
        self.keeps_state(desk, Outside("delay"), desk.attempt, [("press", 9), ("press", 1, 1)])

    def test_unsafe_in_the_middle(self):
        desk = a_desk()
        before = state_of(desk)
        with self.assertRaises(Unsafe) as caught:
            desk.attempt([("press", 0), ("put", "eve", 1, None), ("put", "eve", 1, "cars")])
        self.assertEqual(caught.exception.breach.demand.word, "near")
        self.assertEqual(state_of(desk), before)

    def test_each_step_must_be_safe(self):
        # In the other order the same changes are refused.
        desk = a_desk()
        desk.attempt([("put", "noon", 0, None), ("space", 30)])
        desk = a_desk()
        with self.assertRaises(Unsafe):
            desk.attempt([("space", 30), ("put", "noon", 0, None)])
        self.assertEqual(desk.deeds, [])

    def test_at_random(self):
        rng = random.Random("attempts")
        tried = {True: 0, False: 0}
        for order in calm_orders("attempts", 40, 10 ** 9):
            plan = make_plan(order, {})
            desk, other = Desk(plan), Desk(plan)
            for _ in range(6):
                deeds = [some_deed(rng, desk) for _ in range(rng.randrange(4))]
                deeds = [deed for deed in deeds if deed != ("undo",)]
                tried[self.both(desk, other, deeds)] += 1
        self.assertGreater(min(tried.values()), 50)

    def both(self, desk, other, deeds):
        """An attempt at one desk, and its deeds one by one at the other one."""
        before = state_of(desk)
        results, names = [], []
        for deed in deeds:
            try:
                results.append(done(other, deed))
            except BarbreaksError as error:
                names.append(type(error))
                break
        if names:
            with self.assertRaises(BarbreaksError) as caught:
                desk.attempt(deeds)
            self.assertIs(type(caught.exception), names[0])
            self.assertEqual(state_of(desk), before)
            for _ in results:
                other.undo()
        else:
            self.assertEqual(desk.attempt(deeds), results)
        self.assertEqual(state_of(desk)[:6], state_of(other)[:6])
        self.assertEqual(state_of(desk)[8:], state_of(other)[8:])
        return not names


class TestDeeds(AttemptCase):
    def test_tuples(self):
        desk = a_desk(*DAY)
        due = [("finish", 10) if deed == ("finish",) else deed for deed in DAY]
        self.assertEqual((desk.deeds, list(desk)), (due, due))
        self.assertIs(type(desk.deeds), list)

    def test_deeds_lead_to_the_same_state(self):
        rng = random.Random("replayed")
        for order in calm_orders("replayed", 40, 10 ** 9):
            plan = make_plan(order, {})
            desk = Desk(plan)
            states = [state_of(desk)]
            for _ in range(25):
                deed = some_deed(rng, desk)
                try:
                    done(desk, deed)
                except BarbreaksError:
                    self.assertEqual(state_of(desk), states[-1])
                    continue
                if deed == ("undo",):
                    states.pop()
                    self.assertEqual(state_of(desk), states[-1])
                else:
                    states.append(state_of(desk))
            other = Desk(plan)
            for deed in desk:
                done(other, deed)
            self.assertEqual(state_of(other), state_of(desk))

    def test_attempts_are_replayed(self):
        desk = a_desk(("press", 0), ("attempt", [("finish",), ("press", 0)]), ("attempt", ()), ("finish", 8))
        self.assertEqual(list(desk), [("press", 0), ("attempt", (("finish", 10), ("press", 0))), ("attempt", ()),
                                      ("finish", 8)])
        self.assertEqual(state_of(a_desk(*desk)), state_of(desk))


class TestSpacingAndEntries(AttemptCase):
    def test_spacing(self):
        desk = a_desk()
        self.assertEqual(desk.spacing, 14)
        desk.spacing = 16
        self.assertEqual((desk.spacing, desk.plan.order.house.apart), (16, 16))
        self.assertEqual(desk.deeds, [("space", 16)])
        desk.undo()
        self.assertEqual(desk.spacing, 14)

    def test_checks_of_spacing(self):
        desk = a_desk()
        for ticks in [0, -1]:
            self.keeps_state(desk, BadNumber(ticks), setattr, desk, "spacing", ticks)
        before = state_of(desk)
        with self.assertRaises(Unsafe):
            desk.spacing = 17
        self.assertEqual(state_of(desk), before)

    def test_entries(self):
        desk = a_desk()
        self.assertEqual([desk["noon", 0], desk["noon", 1], desk["eve", 0], desk["eve", 1]],
                         ["cars", None, "cars", "soap"])
        desk["noon", 1] = "soap"
        self.assertEqual((desk["noon", 1], desk.plan.sheet["noon", 1]), ("soap", "soap"))
        desk["noon", 0] = None
        self.assertIsNone(desk["noon", 0])
        self.assertEqual(desk.deeds, [("put", "noon", 1, "soap"), ("put", "noon", 0, None)])

    def test_checks_of_entries(self):
        desk = a_desk(("press", 0))
        for name in ["talk", "x"]:
            self.refuses(Unknown(name), lambda name=name: desk[name, 9])
            self.keeps_state(desk, Unknown(name), desk.__setitem__, (name, 9), "tea")
        for place in [-1, 2]:
            self.refuses(BadNumber(place), lambda place=place: desk["noon", place])
            self.keeps_state(desk, BadNumber(place), desk.__setitem__, ("noon", place), "tea")
        self.keeps_state(desk, Unknown("tea"), desk.__setitem__, ("eve", 0), "tea")
        self.keeps_state(desk, Begun("noon"), desk.__setitem__, ("noon", 0), None)


class TestQuestions(AttemptCase):
    def test_known(self):
        desk = a_desk(("press", 1), ("finish",))
        told = {event: desk.known(event) for event in all_events(desk.plan.order)}
        known = {event: moment for event, moment in told.items() if moment is not None}
        self.assertEqual(known, {
            ("opens",): 0, ("begin", "noon"): 3, ("end", "noon"): 13, ("place", "noon", 0): 3,
            ("place", "noon", 1): 8, ("call", "talk"): 3})

    def test_known_walks_and_packs(self):
        desk = a_desk(("press", 1), ("finish",))
        self.assertIsNone(desk.known(("enter", "talk")))
        desk.expect("talk", "walk", 1, 2)
        self.assertIsNone(desk.known(("enter", "talk")))
        desk.expect("talk", "walk", 2, 2)
        self.assertEqual(desk.known(("enter", "talk")), 5)
        # Only one value is possible, but the point is not known.
        desk.expect("talk", "pack", 3, 3)
        self.assertIsNone(desk.known(("out", "talk")))
        desk.press(0)
        desk.finish()
        self.assertEqual(desk.known(("out", "talk")), 22)
        desk.walked("talk", 2)
        self.assertEqual(desk.known(("enter", "talk")), 5)

    def test_known_after_telling(self):
        desk = a_desk(("press", 0), ("walked", "talk", 1), ("finish",), ("press", 0), ("finish",))
        self.assertEqual(desk.known(("enter", "talk")), 3)
        self.assertIsNone(desk.known(("out", "talk")))
        desk.packed("talk", 1)
        self.assertEqual(desk.known(("out", "talk")), 19)

    def test_strange_events(self):
        desk = a_desk(("press", 0))
        for event in [("begin", "x"), ("call", "noon"), ("place", "talk", 0), ("place", "noon", 2), ("x",),
                      ("opens", "noon"), ("enter", "eve")]:
            self.keeps_state(desk, BadEvent(event), desk.known, event)

    def test_known_of_the_order_of_the_plan(self):
        desk = a_desk(("swap", "song", "tune"), ("press", 0), ("finish",), ("press", 0), ("finish",),
                      ("press", 0))
        self.assertEqual(desk.known(("call", "tune")), 20)
        self.assertIsNone(desk.known(("call", "song")))

    def test_known_at_random(self):
        rng = random.Random("known")
        seen = 0
        for order in calm_orders("known", 40, 40):
            desk = Desk(make_plan(order, {}))
            for _ in range(25):
                try:
                    done(desk, some_deed(rng, desk))
                except BarbreaksError:
                    continue
                days = days_left(desk.plan, desk.outlook)
                for event in all_events(desk.plan.order):
                    moment = desk.known(event)
                    if moment is not None:
                        seen += 1
                        self.assertLessEqual(point_of(desk.plan.order, event), desk.point)
                        self.assertEqual({day[event] for day in days}, {moment})
                    elif point_of(desk.plan.order, event) <= desk.point:
                        self.assertGreater(len({day[event] for day in days}), 1)
                self.assertEqual(desk.left(), [item.name for item in desk.plan.order
                                               if desk.known(("begin", item.name)) is None])
        self.assertGreater(seen, 500)

    def test_margin(self):
        desk = a_desk()
        self.assertEqual(desk.margin(), min(margins(desk.plan)))
        self.assertEqual(desk.margin(), 0)
        desk = Desk(Plan(Order(a_house(), 0, []), studios={}, crews={}))
        self.assertIsNone(desk.margin())

    def test_margin_in_the_outlook(self):
        gap = Break("gap", grid=Grid(1), minute=0, places=1, unit=1, delay=2, patience=4)
        desk = Desk(Plan(Order(a_house(), 0, [gap]), studios={}, crews={}))
        self.assertEqual(desk.margin(), 1)
        desk.expect("gap", "delay", 0, 1)
        self.assertEqual(desk.margin(), 2)
        desk.press(0)
        self.assertEqual(desk.margin(), 3)
        desk.undo()
        desk.retime("gap", -1)
        self.assertEqual(desk.margin(), 1)

    def test_left(self):
        desk = a_desk()
        names = ["noon", "talk", "eve", "song", "tune"]
        for at in range(5):
            self.assertEqual(desk.left(), names[at:])
            desk.press(0)
            self.assertEqual(desk.left(), names[at + 1:])
            desk.finish()
            self.assertEqual(desk.left(), names[at + 1:])

    def test_lists_are_new(self):
        desk = a_desk(("press", 0))
        before = state_of(desk)
        desk.left().clear()
        desk.attempt([]).append(3)
        desk.undo()
        list(desk).clear()
        self.assertEqual(state_of(desk), before)

    def test_example(self):
        desk = Desk(make_plan(doc_order(), {"cars": 2}))
        self.assertEqual([desk.press(0), desk.finish(), desk.press(0), desk.finish(6)], [10, 20, 20, 26])
        self.refuses(OffAir(), desk.finish)
        self.assertEqual((desk.walked("talk", 2), desk.left()), (12, ["eve"]))
        self.refuses(Begun("noon"), desk.retime, "noon", 7)

    def test_plan_that_is_passed_stays(self):
        plan = desk_plan()
        desk = Desk(plan)
        desk["noon", 0] = None
        desk.room("tune", 0)
        self.assertEqual((plan.sheet["noon", 0], plan.studios["tune"]), ("cars", 2))


if __name__ == "__main__":
    unittest.main()
