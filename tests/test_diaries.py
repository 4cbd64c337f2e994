"""Point 21: the diary of a run."""

import inspect
import unittest

from barbreaks.diaries import diary
from barbreaks.events import all_events
from barbreaks.grids import Grid
from barbreaks.houses import House
from barbreaks.items import Break, Piece
from barbreaks.orders import Order
from barbreaks.runs import run
from tests.helpers import (Case, a_house, an_order, many_orders, plain_bounds, plain_events,
                           rows_within)


class TestDiary(Case):
    def test_is_a_generator(self):
        day = run(an_order(), [(0,), (0, 4, 1, 3), (0, 7, 1, 3), (0,)])
        self.assertTrue(inspect.isgenerator(diary(day)))
        self.assertTrue(all(type(entry) is tuple and len(entry) == 2 for entry in diary(day)))

    def test_by_hand(self):
        house = House(1, 1, walk=(0, 0), pack=(0, 2))
        lineup = [Break("b", grid=Grid(1), minute=0, places=2, unit=1),
                  Piece("a", grid=Grid(1), least=1, most=1)]
        day = run(Order(house, 0, lineup), [(0,), (0, 1, 0, 0)])
        self.assertEqual(list(diary(day)), [
            (0, ("opens",)), (0, ("begin", "b")), (0, ("place", "b", 0)), (0, ("call", "a")),
            (0, ("enter", "a")), (1, ("place", "b", 1)), (2, ("end", "b")), (2, ("begin", "a")),
            (3, ("end", "a")), (3, ("out", "a"))])

    def test_all_events_in_order(self):
        for order in many_orders("diaries", 60, 3000):
            rows = rows_within(plain_bounds(order))
            for row in [rows[0], rows[len(rows) // 2], rows[-1]]:
                moments = plain_events(order, row)
                right = sorted(all_events(order), key=lambda event: moments[event])
                self.assertEqual(list(diary(run(order, row))),
                                 [(moments[event], event) for event in right])

    def test_equal_moments(self):
        found = 0
        for order in many_orders("equal moments", 20, 500):
            events = all_events(order)
            entries = list(diary(run(order, rows_within(plain_bounds(order))[0])))
            for (moment, event), (later, other) in zip(entries, entries[1:]):
                self.assertLessEqual(moment, later)
                if moment == later:
                    found += 1
                    self.assertLess(events.index(event), events.index(other))
        self.assertGreater(found, 20)

    def test_day_stays(self):
        day = run(an_order(), [(0,), (0, 4, 1, 3), (0, 7, 1, 3), (0,)])
        before = (list(day.row), list(day.moments))
        first = list(diary(day))
        self.assertEqual(list(diary(day)), first)
        self.assertEqual((day.row, day.moments), before)

    def test_empty_order(self):
        self.assertEqual(list(diary(run(Order(a_house(), 7, []), []))), [(7, ("opens",))])


if __name__ == "__main__":
    unittest.main()
