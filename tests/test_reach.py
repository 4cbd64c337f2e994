"""Points 25, 26 and 28: tables of moments, and the rows that lead to them."""

import unittest

from barbreaks.errors import NoPoint, NotReached
from barbreaks.grids import Grid
from barbreaks.houses import House
from barbreaks.items import Piece
from barbreaks.orders import Order
from barbreaks.outlooks import Outlook
from barbreaks.reach import Reach
from barbreaks.runs import run
from barbreaks.spans import Span
from tests.helpers import (WORDS, Case, a_break, a_house, a_piece, an_order, doc_order, many_orders,
                           narrowed_at_random, plain_tables, wide_order)

BIG = 10 ** 40 - 1


def reaches(seed, count, most_rows):
    """Reaches of full and narrowed outlooks of small orders."""
    for number, order in enumerate(many_orders(seed, count, most_rows)):
        yield Reach(Outlook(order))
        yield Reach(narrowed_at_random(Outlook(order), number))


def wide_reaches():
    """Reaches of orders with far more rows than can be gone through."""
    yield Reach(Outlook(wide_order([1] * 8)))
    yield Reach(Outlook(wide_order([7, 3, 12, 5, 2, 30, 1, 9], breaks=(2, 5), opens=-40)))
    yield Reach(Outlook(wide_order([10 ** 39, 10 ** 30, 10 ** 20, 1000, 100, 10, 3, 1], minute=50)))
    yield Reach(Outlook(wide_order([100 ** k for k in range(8, 0, -1)], least=BIG - 8)))


def step_by_step(outlook):
    """The tables, carried on from each point to the next with plain sums."""
    tables = [{outlook.order.opens: 0}]
    for item in outlook.order:
        begins, ends = {}, {}
        for moment, late in tables[-1].items():
            delay = outlook.span_of(item.name, "delay")
            for x in range(delay.low, delay.high + 1):
                begin = max(moment, moment if item.minute is None else item.minute) + x
                begin += (item.grid.offset - begin) % item.grid.step
                begins[begin] = min(begins.get(begin, BIG), late + x - delay.low)
        for moment, late in begins.items():
            if item.name in outlook.order.break_names():
                ends[moment + item.places * item.unit] = late
            else:
                length = outlook.span_of(item.name, "length")
                for x in range(length.low, length.high + 1):
                    found = late + x - length.low
                    ends[moment + x] = min(ends.get(moment + x, BIG), found)
        tables.extend([begins, ends])
    return [sorted(table.items()) for table in tables]


class TestTables(Case):
    def test_attributes(self):
        outlook = Outlook(doc_order())
        reach = Reach(outlook)
        self.assertIs(reach.outlook, outlook)
        self.assertEqual(reach.tables, [
            [(0, 0)], [(10, 0)], [(20, 0)], [(20, 0)], [(24, 0), (25, 1), (26, 2)],
            [(30, 0)], [(40, 0)]])
        self.assertIs(type(reach.tables), list)
        for table in reach.tables:
            self.assertIs(type(table), list)
            self.assertTrue(all(type(entry) is tuple for entry in table))

    def test_empty_order(self):
        self.assertEqual(Reach(Outlook(Order(a_house(), -9, []))).tables, [[(-9, 0)]])

    def test_two_ways_to_one_moment(self):
        lineup = [a_piece("a", grid=Grid(3), least=4, most=6, delay=3), a_piece("b", grid=Grid(5))]
        tables = Reach(Outlook(Order(a_house(), 1, lineup))).tables
        self.assertEqual(tables[1], [(3, 0), (6, 3)])
        self.assertEqual(tables[2], [(7, 0), (8, 1), (9, 2), (10, 3), (11, 4), (12, 5)])
        self.assertEqual(tables[3], [(10, 0), (15, 4)])
        self.assertEqual(tables[4], [(14, 0), (15, 1), (16, 2), (19, 4), (20, 5), (21, 6)])

    def test_against_all_rows(self):
        for reach in reaches("tables", 60, 1500):
            self.assertEqual(reach.tables, plain_tables(reach.outlook))

    def test_of_wide_orders(self):
        for reach in wide_reaches():
            self.assertEqual(reach.tables, step_by_step(reach.outlook))

    def test_narrowed_spans_do_not_begin_at_zero(self):
        lineup = [a_piece("a", delay=8, least=4, most=12)]
        outlook = Outlook(Order(a_house(), 0, lineup))
        outlook = outlook.narrowed("a", "delay", 3, 5).narrowed("a", "length", 7, 8)
        self.assertEqual(Reach(outlook).tables, [
            [(0, 0)], [(3, 0), (4, 1), (5, 2)], [(10, 0), (11, 1), (12, 2), (13, 3)]])

    def test_outlook_stays(self):
        outlook = Outlook(an_order())
        Reach(outlook).row_to(8, 54)
        self.assertEqual(outlook.first_row(), [(0,), (0, 4, 1, 3), (0, 7, 1, 3), (0,)])
        self.assertEqual(outlook.last_row(), [(1,), (2, 6, 2, 5), (1, 7, 2, 5), (0,)])


class TestQuestions(Case):
    def test_moments_and_spans(self):
        for reach in [*reaches("moments", 25, 3000), *wide_reaches()]:
            for point, table in enumerate(reach.tables):
                self.assertEqual(reach.moments_at(point), [moment for moment, _ in table])
                span = reach.span_at(point)
                self.assertIs(type(span), Span)
                self.assertEqual((span.low, span.high), (table[0][0], table[-1][0]))

    def test_lateness(self):
        for reach in reaches("lateness at", 25, 3000):
            for point, table in enumerate(reach.tables):
                for moment, late in table:
                    self.assertEqual(reach.lateness_at(point, moment), late)

    def test_rows(self):
        for reach in reaches("rows to", 40, 3000):
            for point, table in enumerate(reach.tables):
                for moment, late in table:
                    self.leads(reach, point, moment, late)

    def test_rows_of_wide_orders(self):
        for reach in wide_reaches():
            for point, table in enumerate(reach.tables):
                for moment, late in [table[0], table[len(table) // 2], table[-1]]:
                    self.leads(reach, point, moment, late)

    def leads(self, reach, point, moment, late):
        """The row has all that point 26 asks of it."""
        outlook = reach.outlook
        row = reach.row_to(point, moment)
        self.assertIs(type(row), list)
        self.assertIs(row in outlook, True)
        self.assertEqual(run(outlook.order, row).moments[point], moment)
        self.assertEqual(outlook.lateness_of(row), late)
        for number, (item, lags) in enumerate(zip(outlook.order, row)):
            for word, lag in zip(WORDS, lags):
                depends = {"delay": 2 * number + 1, "length": 2 * number + 2}.get(word, BIG)
                if point < depends:
                    self.assertEqual(lag, outlook.span_of(item.name, word).low)

    def test_lists_are_new(self):
        reach = Reach(Outlook(an_order()))
        reach.moments_at(4).clear()
        reach.row_to(4, 28).clear()
        self.assertEqual(reach.moments_at(4), [moment for moment, _ in reach.tables[4]])
        self.assertEqual(len(reach.row_to(4, 28)), 4)

    def test_no_point(self):
        reach = Reach(Outlook(an_order()))
        for point in [-1, -9, 9, 10, BIG]:
            self.refuses(NoPoint(point), reach.moments_at, point)
            self.refuses(NoPoint(point), reach.span_at, point)
            self.refuses(NoPoint(point), reach.lateness_at, point, 54)
            self.refuses(NoPoint(point), reach.row_to, point, 54)
        empty = Reach(Outlook(Order(a_house(), 0, [])))
        self.refuses(NoPoint(1), empty.moments_at, 1)
        self.assertEqual((empty.moments_at(0), empty.row_to(0, 0)), ([0], []))

    def test_not_reached(self):
        reach = Reach(Outlook(doc_order()))
        tables = [list(table) for table in reach.tables]
        for point, moment in [(0, 1), (0, -1), (1, 0), (4, 23), (4, 27), (5, 24), (6, BIG)]:
            self.refuses(NotReached(point, moment), reach.lateness_at, point, moment)
            self.refuses(NotReached(point, moment), reach.row_to, point, moment)
        self.assertEqual(reach.tables, tables)

    def test_moments_between_are_not_reached(self):
        for reach in reaches("gaps", 20, 3000):
            for point in range(reach.outlook.order.points):
                span = reach.span_at(point)
                for moment in range(span.low - 1, span.high + 2):
                    if moment not in reach.moments_at(point):
                        self.refuses(NotReached(point, moment), reach.lateness_at, point, moment)
                        self.refuses(NotReached(point, moment), reach.row_to, point, moment)


class TestFacts(Case):
    def test_upto(self):
        for order in [*many_orders("upto", 25, 10 ** 9), wide_order([7, 3, 12, 5, 2, 30, 1, 9])]:
            tables = Reach(Outlook(order)).tables
            for count in range(len(order) + 1):
                self.assertEqual(Reach(Outlook(order.upto(count))).tables, tables[:2 * count + 1])

    def test_moved(self):
        for order in [*many_orders("moved", 25, 10 ** 9), wide_order([7, 3, 12, 5, 2, 30, 1, 9])]:
            tables = Reach(Outlook(order)).tables
            for ticks in [-23, 1, 8, BIG]:
                moved = [[(moment + ticks, late) for moment, late in table] for table in tables]
                self.assertEqual(Reach(Outlook(order.moved(ticks))).tables, moved)

    def test_great_numbers(self):
        grid = Grid(BIG, BIG - 1)
        lineup = [Piece(f"x{k}", grid=grid, least=BIG - 8, most=BIG, minute=BIG, delay=8)
                  for k in range(8)]
        reach = Reach(Outlook(Order(House(1, 1), -BIG, lineup)))
        self.assertEqual(reach.tables[1], [(2 * BIG - 1, 0)])
        self.assertEqual(reach.tables[3], [(3 * BIG - 1, 0), (4 * BIG - 1, 9)])
        self.assertEqual(reach.tables, step_by_step(reach.outlook))


class TestOtherItems(Case):
    def test_breaks_add_no_lateness(self):
        lineup = [a_break("a", grid=Grid(1), delay=2), a_piece("b", least=1, most=2)]
        tables = Reach(Outlook(Order(a_house(), 0, lineup))).tables
        self.assertEqual(tables[1], [(5, 0), (6, 1), (7, 2)])
        self.assertEqual(tables[2], [(15, 0), (16, 1), (17, 2)])
        self.assertEqual(tables[4], [(16, 0), (17, 1), (18, 2), (19, 3)])


if __name__ == "__main__":
    unittest.main()
