"""Point 24: courses."""

import unittest

from barbreaks.courses import Course
from barbreaks.errors import NoPoint
from barbreaks.orders import Order
from barbreaks.outlooks import Outlook
from tests.helpers import (Case, a_house, an_order, doc_order, many_orders, narrowed_at_random,
                           wide_order)

BIG = 10 ** 40 - 1


def plain_course(outlook, start, goal, moment, end):
    """The moment of the goal with all lags at the `low` or the `high` end, tick by tick."""
    for point in range(start, goal):
        item = outlook.order.lineup[point // 2]
        if point % 2 == 0:
            tick = moment if item.minute is None else max(moment, item.minute)
            tick += getattr(outlook.span_of(item.name, "delay"), end)
            while (tick - item.grid.offset) % item.grid.step != 0:
                tick += 1
            moment = tick
        elif item.name in outlook.order.break_names():
            moment += item.places * item.unit
        else:
            moment += getattr(outlook.span_of(item.name, "length"), end)
    return moment


class TestCourse(Case):
    def test_attributes(self):
        outlook = Outlook(an_order())
        course = Course(outlook, 2, 5)
        self.assertIs(course.outlook, outlook)
        self.assertEqual((course.start, course.goal), (2, 5))

    def test_checks(self):
        outlook = Outlook(an_order())
        for start, goal, point in [(-1, 3, -1), (-1, -1, -1), (9, 9, 9), (9, 3, 9), (10, 99, 10),
                                   (3, 2, 2), (8, 7, 7), (0, -1, -1), (0, 9, 9), (8, 9, 9),
                                   (4, BIG, BIG), (BIG, 0, BIG)]:
            self.refuses(NoPoint(point), Course, outlook, start, goal)

    def test_all_points(self):
        outlook = Outlook(an_order())
        for start in range(9):
            for goal in range(start, 9):
                self.assertEqual(Course(outlook, start, goal).goal, goal)

    def test_empty_order(self):
        course = Course(Outlook(Order(a_house(), 5, [])), 0, 0)
        self.assertEqual((course(3), course.latest(-8)), (3, -8))
        self.refuses(NoPoint(1), Course, course.outlook, 0, 1)

    def test_by_hand(self):
        outlook = Outlook(an_order())
        for start, goal, moment, first, last in [
                (0, 1, 2, 10, 10), (0, 1, 10, 10, 20), (1, 2, 7, 17, 17), (2, 3, 20, 22, 22),
                (2, 3, 19, 19, 22), (3, 4, 22, 26, 28), (4, 5, 26, 31, 31), (5, 6, 31, 38, 38),
                (6, 7, 38, 42, 42), (7, 8, 42, 54, 54), (0, 8, 2, 54, 54), (0, 8, 33, 78, 78),
                (0, 8, 10, 54, 66)]:
            course = Course(outlook, start, goal)
            self.assertEqual(course(moment), first, (start, goal, moment))
            self.assertEqual(course.latest(moment), last, (start, goal, moment))

    def test_from_a_point_to_itself(self):
        outlook = Outlook(an_order())
        for point in range(9):
            for moment in [-50, 0, 7, BIG]:
                self.assertEqual(Course(outlook, point, point)(moment), moment)
                self.assertEqual(Course(outlook, point, point).latest(moment), moment)

    def test_against_single_ticks(self):
        for number, order in enumerate(many_orders("courses", 40, 10 ** 9)):
            for outlook in [Outlook(order), narrowed_at_random(Outlook(order), number)]:
                for start in range(order.points):
                    for goal in range(start, order.points):
                        course = Course(outlook, start, goal)
                        for moment in [-37, -1, 0, 5, 18, 63]:
                            self.assertEqual(course(moment),
                                             plain_course(outlook, start, goal, moment, "low"))
                            self.assertEqual(course.latest(moment),
                                             plain_course(outlook, start, goal, moment, "high"))

    def test_great_numbers(self):
        outlook = Outlook(wide_order([BIG] * 8, least=BIG - 8))
        self.assertEqual(Course(outlook, 0, 1)(1), BIG)
        self.assertEqual(Course(outlook, 0, 1).latest(BIG - 8), BIG)
        self.assertEqual(Course(outlook, 0, 1).latest(BIG - 7), 2 * BIG)
        self.assertEqual(Course(outlook, 1, 2).latest(-BIG), 0)
        self.assertEqual(Course(outlook, 1, 2)(-BIG), -8)


class TestJoined(Case):
    def test_joined(self):
        outlook = narrowed_at_random(Outlook(an_order()), 4)
        for start in range(9):
            for middle in range(start, 9):
                for goal in range(middle, 9):
                    first, second = Course(outlook, start, middle), Course(outlook, middle, goal)
                    both = first >> second
                    self.assertIs(type(both), Course)
                    self.assertIs(both.outlook, outlook)
                    self.assertEqual((both.start, both.goal), (start, goal))
                    for moment in [-5, 2, 11, 40]:
                        self.assertEqual(both(moment), second(first(moment)))
                        self.assertEqual(both.latest(moment), second.latest(first.latest(moment)))
                    self.assertEqual((first.start, first.goal), (start, middle))
                    self.assertEqual((second.start, second.goal), (middle, goal))

    def test_not_joined(self):
        outlook = Outlook(doc_order())
        for start, goal, other_start, other_goal in [(0, 2, 3, 4), (0, 2, 1, 2), (0, 2, 0, 2),
                                                     (2, 4, 0, 2), (3, 3, 2, 3)]:
            first, second = Course(outlook, start, goal), Course(outlook, other_start, other_goal)
            self.refuses(NoPoint(other_start), lambda: first >> second)


if __name__ == "__main__":
    unittest.main()
