"""Point 20: the events of an order and their points."""

import unittest

from barbreaks.errors import BadEvent
from barbreaks.events import all_events, point_of
from barbreaks.orders import Order
from tests.helpers import Case, a_break, a_house, a_piece, an_order

EVENTS = [
    (("opens",), 0),
    (("begin", "noon"), 1), (("end", "noon"), 2),
    (("place", "noon", 0), 1), (("place", "noon", 1), 1),
    (("begin", "talk"), 3), (("end", "talk"), 4),
    (("call", "talk"), 1), (("enter", "talk"), 1), (("out", "talk"), 4),
    (("begin", "song"), 5), (("end", "song"), 6),
    (("call", "song"), 3), (("enter", "song"), 3), (("out", "song"), 6),
    (("begin", "eve"), 7), (("end", "eve"), 8),
    (("place", "eve", 0), 7), (("place", "eve", 1), 7), (("place", "eve", 2), 7),
]


class TestEvents(Case):
    def test_all_events(self):
        self.assertEqual(all_events(an_order()), [event for event, _ in EVENTS])

    def test_of_an_empty_order(self):
        order = Order(a_house(), 5, [])
        self.assertEqual(all_events(order), [("opens",)])
        self.assertEqual(point_of(order, ("opens",)), 0)

    def test_list_is_new(self):
        order = an_order()
        all_events(order).clear()
        self.assertEqual(len(all_events(order)), len(EVENTS))

    def test_points(self):
        for event, point in EVENTS:
            self.assertEqual(point_of(an_order(), event), point, event)

    def test_points_of_calls(self):
        lineup = [a_piece("a"), a_break("b"), a_piece("c"), a_piece("d"), a_piece("e")]
        for ahead, points in [(1, [0, 3, 5, 7]), (2, [0, 1, 3, 5]), (3, [0, 0, 1, 3])]:
            order = Order(a_house(ahead=ahead), 0, lineup)
            for name, point in zip("acde", points):
                self.assertEqual(point_of(order, ("call", name)), point)
                self.assertEqual(point_of(order, ("enter", name)), point)
                self.assertEqual(point_of(order, ("out", name)), order.end_of(name))

    def test_twelve_places(self):
        order = Order(a_house(), 0, [a_break("a", places=12)])
        self.assertEqual([event for event in all_events(order) if event[0] == "place"],
                         [("place", "a", place) for place in range(12)])
        self.assertEqual(point_of(order, ("place", "a", 11)), 1)
        self.refuses(BadEvent(("place", "a", 12)), point_of, order, ("place", "a", 12))

    def test_bad_events(self):
        for event in [("begin",), ("end",), ("place",), ("",), ("noon",), ("opens", "noon"),
                      ("begin", "other"), ("end", ""), ("other", "noon"), ("begin", "NOON"),
                      ("call", "noon"), ("enter", "noon"), ("out", "eve"), ("call", "other"),
                      ("place", "noon"), ("place", "noon", -1), ("place", "noon", 2),
                      ("place", "eve", 3), ("place", "talk", 0), ("place", "other", 0),
                      ("begin", "noon", 0), ("end", "talk", 1), ("opens", "noon", 0),
                      ("call", "talk", 0), ("enter", "talk", 0), ("out", "talk", 0)]:
            self.refuses(BadEvent(event), point_of, an_order(), event)


if __name__ == "__main__":
    unittest.main()
