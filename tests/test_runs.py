"""Points 18 to 21: rows, runs, the moments of events, and who is inside or bound."""

import unittest

from barbreaks.errors import BadEvent, BadRow, BadSize
from barbreaks.events import all_events
from barbreaks.grids import Grid
from barbreaks.houses import House
from barbreaks.items import Break, Piece
from barbreaks.orders import Order
from barbreaks.runs import Run, run
from tests.helpers import (Case, a_break, a_house, a_piece, an_order, doc_order, many_orders,
                           plain_bounds, plain_events, plain_moments, rows_within)

BIG = 10 ** 40 - 1
LEAST = [(0,), (0, 4, 1, 3), (0, 7, 1, 3), (0,)]
MOST = [(1,), (2, 6, 2, 5), (1, 7, 2, 5), (0,)]


def changed(row, number, lags):
    return [*row[:number], lags, *row[number + 1:]]


def orders_with_rows():
    """Small orders, each with some of its rows."""
    for order in many_orders("runs", 60, 3000):
        rows = rows_within(plain_bounds(order))
        yield order, rows[::max(1, len(rows) // 12)] + [rows[-1]]


class TestRun(Case):
    def test_attributes(self):
        order = doc_order()
        row = [(0,), (0, 4, 1, 0), (0,)]
        day = run(order, row)
        self.assertIs(type(day), Run)
        self.assertIs(day.order, order)
        self.assertEqual(day.row, row)
        self.assertEqual(day.moments, [0, 10, 20, 20, 24, 30, 40])

    def test_moments(self):
        for order, rows in orders_with_rows():
            for row in rows:
                self.assertEqual(run(order, row).moments, plain_moments(order, row))

    def test_great_numbers(self):
        grid = Grid(BIG, 1)
        lineup = [Piece("a", grid=grid, least=BIG - 8, most=BIG, minute=-BIG, delay=8),
                  Break("b", grid=grid, minute=BIG, places=12, unit=BIG, delay=8)]
        order = Order(House(1, 1, walk=(BIG - 8, BIG)), -BIG, lineup)
        day = run(order, [(8, BIG - 1, BIG, 0), (3,)])
        self.assertEqual(day.moments, [-BIG, 1, BIG, 2 * BIG + 1, 14 * BIG + 1])
        self.assertEqual(day.moment_of(("enter", "a")), 0)

    def test_empty_order(self):
        day = run(Order(a_house(), -4, []), [])
        self.assertEqual((day.row, day.moments), ([], [-4]))
        self.assertEqual(day.moment_of(("opens",)), -4)
        self.assertEqual((day.inside(-4), day.bound(-4)), ([], []))

    def test_row_as_a_tuple(self):
        day = run(an_order(), tuple(LEAST))
        self.assertIs(type(day.row), list)
        self.assertEqual(day.row, LEAST)

    def test_row_is_copied(self):
        row = list(LEAST)
        day = run(an_order(), row)
        row[1] = (2, 6, 2, 5)
        row.clear()
        self.assertEqual(day.row, LEAST)

    def test_row_stays(self):
        row = list(MOST)
        run(an_order(), row).moment_of(("out", "song"))
        self.assertEqual(row, MOST)

    def test_runs_share_nothing(self):
        order = an_order()
        first, second = run(order, LEAST), run(order, LEAST)
        self.assertIsNot(first.moments, second.moments)
        self.assertIsNot(first.row, second.row)


class TestRowChecks(Case):
    def test_bad_size(self):
        order = an_order()
        self.refuses(BadSize(0), run, order, [])
        self.refuses(BadSize(3), run, order, LEAST[:3])
        self.refuses(BadSize(5), run, order, LEAST + [(0,)])
        self.refuses(BadSize(1), run, Order(a_house(), 0, []), [(0,)])

    def test_bad_size_goes_first(self):
        self.refuses(BadSize(3), run, an_order(), [(99,), (0,), ()])

    def test_number_of_entries(self):
        order = an_order()
        for lags in [(), (0,), (0, 4), (0, 4, 1), (0, 4, 1, 3, 0)]:
            self.refuses(BadRow("talk"), run, order, changed(LEAST, 1, lags))
        for lags in [(), (0, 0), (0, 4, 1, 3)]:
            self.refuses(BadRow("noon"), run, order, changed(LEAST, 0, lags))
            self.refuses(BadRow("eve"), run, order, changed(LEAST, 3, lags))

    def test_lags_at_their_bounds_and_beyond(self):
        order = an_order()
        for number, pairs in enumerate(plain_bounds(order)):
            name = order.lineup[number].name
            for at, (low, high) in enumerate(pairs):
                for lag in [low - 9, low - 1, low, high, high + 1, high + BIG]:
                    lags = list(LEAST[number])
                    lags[at] = lag
                    row = changed(LEAST, number, tuple(lags))
                    if low <= lag <= high:
                        self.assertEqual(run(order, row).row, row)
                    else:
                        self.refuses(BadRow(name), run, order, row)

    def test_first_bad_item(self):
        row = changed(changed(LEAST, 2, (9, 7, 1, 3)), 1, (0, 4, 1))
        self.refuses(BadRow("talk"), run, an_order(), row)
        row = changed(changed(LEAST, 2, (0,)), 1, (3, 4, 1, 3))
        self.refuses(BadRow("talk"), run, an_order(), row)
        self.refuses(BadRow("song"), run, an_order(), changed(changed(LEAST, 3, (1,)), 2, (0,)))

    def test_example(self):
        self.refuses(BadRow("talk"), run, doc_order(), [(0,), (0, 7, 1, 0), (0,)])


class TestMoments(Case):
    def test_moments_of_events(self):
        for order, rows in orders_with_rows():
            for row in rows:
                day = run(order, row)
                for event, moment in plain_events(order, row).items():
                    self.assertEqual(day.moment_of(event), moment, event)

    def test_by_hand(self):
        day = run(an_order(), MOST)
        self.assertEqual(day.moments, [2, 10, 20, 22, 28, 31, 38, 42, 54])
        for event, moment in [
                (("opens",), 2), (("begin", "noon"), 10), (("end", "noon"), 20),
                (("place", "noon", 1), 15), (("call", "talk"), 10), (("enter", "talk"), 12),
                (("out", "talk"), 33), (("call", "song"), 22), (("enter", "song"), 24),
                (("out", "song"), 43), (("place", "eve", 0), 42), (("place", "eve", 2), 50)]:
            self.assertEqual(day.moment_of(event), moment, event)

    def test_bad_events(self):
        day = run(an_order(), LEAST)
        for event in [("begin",), ("enter", "noon"), ("out", "eve"), ("call", "x"), ("end", ""),
                      ("place", "noon", 2), ("place", "noon", -1), ("place", "talk", 0),
                      ("opens", "noon"), ("enter", "talk", 0)]:
            self.refuses(BadEvent(event), day.moment_of, event)


class TestCrews(Case):
    def test_inside_and_bound(self):
        for order, rows in orders_with_rows():
            for row in rows[:4] + rows[-1:]:
                day = run(order, row)
                moments = plain_events(order, row)
                for moment in sorted({m + k for m in moments.values() for k in (-1, 0, 1)}):
                    for word, found in [("enter", day.inside(moment)), ("call", day.bound(moment))]:
                        right = [name for name in order.piece_names()
                                 if moments[word, name] <= moment < moments["out", name]]
                        self.assertEqual(found, right)

    def test_by_hand(self):
        day = run(an_order(), MOST)
        for moment, inside, bound in [
                (9, [], []), (10, [], ["talk"]), (11, [], ["talk"]), (12, ["talk"], ["talk"]),
                (22, ["talk"], ["talk", "song"]), (24, ["talk", "song"], ["talk", "song"]),
                (32, ["talk", "song"], ["talk", "song"]), (33, ["song"], ["song"]),
                (42, ["song"], ["song"]), (43, [], [])]:
            self.assertEqual(day.inside(moment), inside, moment)
            self.assertEqual(day.bound(moment), bound, moment)

    def test_lists_are_new(self):
        day = run(an_order(), MOST)
        day.inside(24).clear()
        day.bound(24).clear()
        self.assertEqual(day.inside(24), ["talk", "song"])
        self.assertEqual(day.bound(24), ["talk", "song"])

    def test_lineup_decides_and_not_the_calls(self):
        lineup = [a_piece("z"), a_piece("a"), a_break("m")]
        day = run(Order(a_house(ahead=3), 0, lineup), [(0, 4, 2, 3), (0, 4, 1, 3), (0,)])
        self.assertEqual(day.bound(0), ["z", "a"])
        self.assertEqual(day.inside(1), ["a"])
        self.assertEqual(day.inside(2), ["z", "a"])

    def test_a_crew_that_walks_longer_than_its_piece_is_never_inside(self):
        house = House(1, 1, walk=(30, 30))
        day = run(Order(house, 0, [a_piece("talk")]), [(0, 4, 30, 0)])
        self.assertEqual([day.inside(moment) for moment in range(40)], [[]] * 40)
        self.assertEqual(day.bound(3), ["talk"])


class TestFact(Case):
    def test_greater_lags_make_no_event_earlier(self):
        for order in many_orders("facts", 25, 120):
            rows = rows_within(plain_bounds(order))
            days = [[run(order, row).moment_of(event) for event in all_events(order)]
                    for row in rows]
            flat = [[lag for lags in row for lag in lags] for row in rows]
            for low, early in zip(flat, days):
                for high, late in zip(flat, days):
                    if all(x <= y for x, y in zip(low, high)):
                        self.assertTrue(all(x <= y for x, y in zip(early, late)))


if __name__ == "__main__":
    unittest.main()
