"""Point 27: tables are checked."""

import unittest

from barbreaks.grids import Grid
from barbreaks.orders import Order
from barbreaks.outlooks import Outlook
from barbreaks.reach import Reach
from barbreaks.tables import check_tables
from tests.helpers import (Case, a_break, a_house, a_piece, an_order, doc_order, many_orders,
                           narrowed_at_random, plain_tables, wide_order)


def outlooks(seed, count, most_rows):
    for number, order in enumerate(many_orders(seed, count, most_rows)):
        yield Outlook(order)
        yield narrowed_at_random(Outlook(order), number)


def spoiled(tables):
    """The tables with one thing wrong, in all ways."""
    for at, table in enumerate(tables):
        yield tables[:at] + tables[at + 1:]
        yield tables[:at] + [table] + tables[at:]
        yield tables[:at] + [[]] + tables[at + 1:]
        for wrong in spoiled_table(table):
            yield tables[:at] + [wrong] + tables[at + 1:]
    yield []
    yield tables + [[]]
    yield tables + [[(10 ** 6, 0)]]


def spoiled_table(table):
    for at, (moment, late) in enumerate(table):
        for other in [(moment, late + 1), (moment, late - 1), (moment + 1, late),
                      (moment - 1, late), (moment, late + 100), (late, moment)]:
            if other != (moment, late):
                yield table[:at] + [other] + table[at + 1:]
        yield table[:at] + table[at + 1:]
        yield table[:at] + [(moment, late)] + table[at:]
        yield table[:at] + [(moment, late + 1)] + table[at:]
    yield table[:1] + [(table[0][0] - 1, 0)] + table[1:]
    yield [(table[0][0] - 1, 0)] + table
    yield table + [(table[-1][0] + 1, table[-1][1] + 1)]
    yield table + [(table[-1][0] + 1, 0)]
    if len(table) > 1:
        yield table[::-1]
        yield [table[1], table[0], *table[2:]]


def carried_on(order, tables):
    """The tables with all lists behind the given ones made from the last one."""
    tables = list(tables)
    for point in range(len(tables) - 1, 2 * len(order)):
        item = order.lineup[point // 2]
        found = {}
        for moment, late in tables[-1]:
            if point % 2 == 0:
                ways = [(item.begin_at(moment, x), late + x) for x in range(item.delay + 1)]
            elif item.name in order.break_names():
                ways = [(moment + item.length, late)]
            else:
                ways = [(moment + x, late + x - item.least)
                        for x in range(item.least, item.most + 1)]
            for then, sum_late in ways:
                found[then] = min(sum_late, found.get(then, sum_late))
        tables.append(sorted(found.items()))
    return tables


class TestCheckTables(Case):
    def test_right_tables(self):
        for outlook in outlooks("right", 40, 1000):
            self.assertIs(check_tables(outlook, plain_tables(outlook)), True)
            self.assertIs(check_tables(outlook, Reach(outlook).tables), True)

    def test_right_tables_of_wide_orders(self):
        for order in [wide_order([1] * 8), wide_order([7, 3, 12, 5, 2, 30, 1, 9], breaks=(1, 6)),
                      wide_order([100 ** k for k in range(8, 0, -1)], least=10 ** 39)]:
            outlook = Outlook(order)
            tables = Reach(outlook).tables
            self.assertIs(check_tables(outlook, tables), True)
            tables = tables[:9] + [tables[9][:-1]] + tables[10:]
            self.assertIs(check_tables(outlook, tables), False)

    def test_empty_order(self):
        outlook = Outlook(Order(a_house(), 4, []))
        self.assertIs(check_tables(outlook, [[(4, 0)]]), True)
        for tables in [[], [[]], [[(4, 1)]], [[(3, 0)]], [[(4, 0), (5, 0)]], [[(4, 0)], [(4, 0)]],
                       [[(4, 0), (4, 0)]]]:
            self.assertIs(check_tables(outlook, tables), False)

    def test_tuples_in_the_place_of_lists(self):
        outlook = Outlook(an_order())
        tables = Reach(outlook).tables
        self.assertIs(check_tables(outlook, tuple(tables)), True)
        self.assertIs(check_tables(outlook, [tuple(table) for table in tables]), True)
        self.assertIs(check_tables(outlook, tuple(tuple(table) for table in tables)), True)
        self.assertIs(check_tables(outlook, (tuple(tables[0]), *tables[1:-1])), False)

    def test_one_thing_spoiled(self):
        for outlook in outlooks("spoiled", 12, 1000):
            tables = Reach(outlook).tables
            for wrong in spoiled(tables):
                self.assertIs(check_tables(outlook, wrong), wrong == tables)

    def test_spoiled_and_carried_on(self):
        for order in many_orders("carried on", 12, 1000):
            tables = Reach(Outlook(order)).tables
            self.assertEqual(carried_on(order, tables[:1]), tables)
            for at, table in enumerate(tables):
                for wrong in spoiled_table(table):
                    found = carried_on(order, tables[:at] + [wrong])
                    self.assertIs(check_tables(Outlook(order), found), False)

    def test_too_late_in_all_lists(self):
        for order in many_orders("too late", 10, 1000):
            tables = [[(moment, late + 1) for moment, late in table]
                      for table in Reach(Outlook(order)).tables]
            self.assertIs(check_tables(Outlook(order), tables), False)

    def test_a_lateness_between_two_ways(self):
        order = Order(a_house(), 0, [a_piece("a", grid=Grid(10, 1), delay=3, least=4, most=7)])
        order = Order(order.house, 0, [*order, a_piece("b", grid=Grid(5), least=1, most=1)])
        outlook = Outlook(order)
        tables = Reach(outlook).tables
        self.assertEqual(tables[1], [(1, 0), (11, 2)])
        self.assertEqual(tables[3], [(5, 0), (10, 1), (15, 2), (20, 3)])
        for late in [0, 2, 3, 4]:
            wrong = tables[:3] + [[(5, 0), (10, late), (15, 2), (20, 3)]]
            wrong.append([(moment + 1, c) for moment, c in wrong[3]])
            self.assertIs(check_tables(outlook, wrong), False)

    def test_tables_of_another_outlook(self):
        outlook = Outlook(an_order())
        for other in [outlook.narrowed("talk", "length", 4, 5), outlook.narrowed("talk", "length", 5, 6),
                      Outlook(an_order().moved(1)), Outlook(an_order().upto(3)),
                      Outlook(doc_order())]:
            self.assertIs(check_tables(outlook, Reach(other).tables), False)
            self.assertIs(check_tables(other, Reach(outlook).tables), False)
            self.assertIs(check_tables(other, Reach(other).tables), True)

    def test_an_outlook_with_the_same_tables(self):
        outlook = Outlook(an_order())
        other = outlook.narrowed("talk", "delay", 1, 2)
        self.assertEqual(Reach(other).tables[3], [(22, 0)])
        self.assertIs(check_tables(outlook, Reach(other).tables), True)

    def test_walks_and_packs_do_not_matter(self):
        outlook = Outlook(an_order())
        other = outlook.narrowed("talk", "walk", 2, 2).narrowed("song", "pack", 4, 4)
        self.assertIs(check_tables(outlook, Reach(other).tables), True)

    def test_tables_stay(self):
        outlook = Outlook(an_order())
        tables = Reach(outlook).tables
        copy = [list(table) for table in tables]
        check_tables(outlook, copy)
        check_tables(outlook, copy[:-1])
        self.assertEqual(copy, tables)

    def test_breaks(self):
        order = Order(a_house(), 0, [a_break("a", grid=Grid(1), delay=1)])
        outlook = Outlook(order)
        self.assertIs(check_tables(outlook, [[(0, 0)], [(5, 0), (6, 1)], [(15, 0), (16, 1)]]), True)
        self.assertIs(check_tables(outlook, [[(0, 0)], [(5, 0), (6, 1)], [(15, 0), (16, 0)]]), False)
        self.assertIs(check_tables(outlook, [[(0, 0)], [(5, 0), (6, 1)], [(5, 0), (6, 1)]]), False)


if __name__ == "__main__":
    unittest.main()
