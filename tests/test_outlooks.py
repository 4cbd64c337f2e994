"""Points 22 and 23: outlooks."""

import inspect
import unittest

from barbreaks.errors import BadRow, BadSize, BadWord, Outside, TooMany, Unknown
from barbreaks.grids import Grid
from barbreaks.houses import House
from barbreaks.items import Break, Piece
from barbreaks.orders import Order
from barbreaks.outlooks import Outlook
from barbreaks.spans import Span
from tests.helpers import (WORDS, Case, a_break, a_house, a_piece, an_order, count_rows, lags_of,
                           many_orders, narrowed_at_random, outlook_bounds, plain_bounds,
                           rows_within)

BIG = 10 ** 40 - 1
LEAST = [(0,), (0, 4, 1, 3), (0, 7, 1, 3), (0,)]
MOST = [(1,), (2, 6, 2, 5), (1, 7, 2, 5), (0,)]


def outlooks(seed, most_rows):
    """Full and narrowed outlooks of small orders."""
    for number, order in enumerate(many_orders(seed, 40, most_rows)):
        yield Outlook(order)
        yield narrowed_at_random(Outlook(order), number)


def changed(row, number, at, lag):
    lags = list(row[number])
    lags[at] = lag
    return [*row[:number], tuple(lags), *row[number + 1:]]


class TestSpans(Case):
    def setUp(self):
        self.outlook = Outlook(an_order())

    def tearDown(self):
        self.assertEqual(outlook_bounds(self.outlook), plain_bounds(self.outlook.order))

    def test_order(self):
        order = an_order()
        outlook = Outlook(order)
        self.assertIs(outlook.order, order)
        self.assertIs(outlook.narrowed("talk", "walk", 1, 1).order, order)
        first, second = outlook.split_at("talk", "walk", 2)
        self.assertIs(first.order, order)
        self.assertIs(second.order, order)

    def test_full_outlook(self):
        for name, word, low, high in [
                ("noon", "delay", 0, 1), ("talk", "delay", 0, 2), ("talk", "length", 4, 6),
                ("talk", "walk", 1, 2), ("talk", "pack", 3, 5), ("song", "delay", 0, 1),
                ("song", "length", 7, 7), ("eve", "delay", 0, 0)]:
            span = self.outlook.span_of(name, word)
            self.assertIs(type(span), Span)
            self.assertEqual(span, Span(low, high))

    def test_span_of_checks(self):
        for name in ["", "x", "NOON"]:
            self.refuses(Unknown(name), self.outlook.span_of, name, "delay")
            self.refuses(Unknown(name), self.outlook.span_of, name, "other")
        for word in ["length", "walk", "pack", "", "other", "Delay"]:
            self.refuses(BadWord(word), self.outlook.span_of, "noon", word)
        for word in ["", "other", "delays", "least"]:
            self.refuses(BadWord(word), self.outlook.span_of, "talk", word)

    def test_narrowed(self):
        for name, word in lags_of(self.outlook.order):
            span = self.outlook.span_of(name, word)
            for low in range(span.low, span.high + 1):
                for high in range(low, span.high + 1):
                    made = self.outlook.narrowed(name, word, low, high)
                    self.assertIs(type(made), Outlook)
                    for other in lags_of(self.outlook.order):
                        right = self.outlook.span_of(*other)
                        if other == (name, word):
                            right = Span(low, high)
                        self.assertEqual(made.span_of(*other), right)

    def test_narrowed_checks(self):
        outlook = self.outlook
        self.refuses(Unknown("x"), outlook.narrowed, "x", "other", 5, 4)
        self.refuses(BadWord("walk"), outlook.narrowed, "noon", "walk", 5, 4)
        self.refuses(BadWord("other"), outlook.narrowed, "talk", "other", 0, 0)
        for low, high in [(3, 4), (3, 3), (4, 7), (7, 7), (6, 5), (5, 4), (-1, 9), (3, 7), (7, 4)]:
            self.refuses(Outside("length"), outlook.narrowed, "talk", "length", low, high)
        self.refuses(Outside("delay"), outlook.narrowed, "noon", "delay", -1, 0)
        self.refuses(Outside("pack"), outlook.narrowed, "song", "pack", 3, 6)

    def test_narrowed_twice(self):
        made = self.outlook.narrowed("talk", "length", 4, 5)
        self.refuses(Outside("length"), made.narrowed, "talk", "length", 5, 6)
        again = made.narrowed("talk", "length", 5, 5).narrowed("song", "walk", 2, 2)
        self.assertEqual(again.span_of("talk", "length"), Span(5, 5))
        self.assertEqual(again.span_of("song", "walk"), Span(2, 2))
        self.assertEqual(made.span_of("talk", "length"), Span(4, 5))
        self.assertEqual(made.span_of("song", "walk"), Span(1, 2))

    def test_split_at(self):
        for name, word in lags_of(self.outlook.order):
            span = self.outlook.span_of(name, word)
            for at in range(span.low + 1, span.high + 1):
                both = self.outlook.split_at(name, word, at)
                self.assertIs(type(both), tuple)
                first, second = both
                self.assertEqual(first.span_of(name, word), Span(span.low, at - 1))
                self.assertEqual(second.span_of(name, word), Span(at, span.high))
                for other in lags_of(self.outlook.order):
                    if other != (name, word):
                        self.assertEqual(first.span_of(*other), self.outlook.span_of(*other))
                        self.assertEqual(second.span_of(*other), self.outlook.span_of(*other))

    def test_split_at_the_ends(self):
        outlook = self.outlook
        for at in [3, 4, 7, 8, -BIG, BIG]:
            self.refuses(Outside("length"), outlook.split_at, "talk", "length", at)
        for at in [6, 7, 8]:
            self.refuses(Outside("length"), outlook.split_at, "song", "length", at)
        self.refuses(Outside("delay"), outlook.split_at, "eve", "delay", 0)

    def test_split_at_checks(self):
        self.refuses(Unknown("x"), self.outlook.split_at, "x", "other", 99)
        self.refuses(BadWord("pack"), self.outlook.split_at, "eve", "pack", 99)
        self.refuses(BadWord("other"), self.outlook.split_at, "talk", "other", 99)

    def test_split_makes_two_of_the_rows(self):
        first, second = self.outlook.split_at("talk", "length", 5)
        self.assertEqual(first.row_count() + second.row_count(), self.outlook.row_count())
        for row in self.outlook.rows():
            self.assertIs(row in first, row[1][1] < 5)
            self.assertIs(row in second, row[1][1] >= 5)


class TestCarried(Case):
    def test_to_another_lineup(self):
        outlook = Outlook(an_order()).narrowed("talk", "length", 5, 6).narrowed("song", "walk", 2, 2)
        order = an_order().swapped("talk", "song").retimed("eve", 90)
        made = outlook.carried(order)
        self.assertIs(type(made), Outlook)
        self.assertIs(made.order, order)
        for name, word in lags_of(order):
            self.assertEqual(made.span_of(name, word), outlook.span_of(name, word))
        self.assertEqual(made.first_row(), [(0,), (0, 7, 2, 3), (0, 5, 1, 3), (0,)])
        self.assertEqual(outlook.first_row(), [(0,), (0, 5, 1, 3), (0, 7, 2, 3), (0,)])

    def test_items_left_out(self):
        outlook = Outlook(an_order()).narrowed("song", "delay", 1, 1)
        order = Order(a_house(), 5, [an_order()["song"], an_order()["noon"]])
        made = outlook.carried(order)
        self.assertEqual(made.first_row(), [(1, 7, 1, 3), (0,)])
        self.assertEqual(outlook.carried(Order(a_house(), 5, [])).row_count(), 1)

    def test_unknown(self):
        lineup = [a_break("noon"), a_piece("b"), a_piece("talk"), a_piece("a")]
        self.refuses(Unknown("b"), Outlook(an_order()).carried, Order(a_house(), 0, lineup))
        self.refuses(Unknown("noon"), Outlook(an_order().upto(0)).carried, an_order())
        self.refuses(Unknown("song"), Outlook(an_order().upto(2)).carried, an_order())


class TestRows(Case):
    def test_rows(self):
        for outlook in outlooks("rows", 300):
            right = rows_within(outlook_bounds(outlook))
            found = list(outlook.rows())
            self.assertEqual(found, right)
            self.assertEqual(outlook.row_count(), len(right))
            self.assertEqual((outlook.first_row(), outlook.last_row()), (right[0], right[-1]))

    def test_kinds(self):
        outlook = Outlook(an_order())
        self.assertTrue(inspect.isgenerator(outlook.rows()))
        for row in [outlook.first_row(), outlook.last_row(), *outlook.rows()]:
            self.assertIs(type(row), list)
            self.assertTrue(all(type(lags) is tuple for lags in row))

    def test_full_rows_are_those_that_fit(self):
        for order in many_orders("fit", 30, 300):
            self.assertEqual(list(Outlook(order).rows()), rows_within(plain_bounds(order)))

    def test_entries_stand_in_the_order_of_the_words(self):
        for at, word in enumerate(WORDS):
            outlook = Outlook(an_order())
            span = outlook.span_of("talk", word)
            made = outlook.narrowed("talk", word, span.high, span.high)
            self.assertEqual(made.first_row(), changed(LEAST, 1, at, span.high))

    def test_rows_are_new(self):
        outlook = Outlook(an_order())
        found = []
        for row in outlook.rows():
            found.append(list(row))
            row.clear()
        self.assertEqual(found, rows_within(plain_bounds(an_order())))
        outlook.first_row().clear()
        outlook.last_row()[1] = ()
        self.assertEqual((outlook.first_row(), outlook.last_row()), (LEAST, MOST))

    def test_kept_rows_are_not_the_same_list(self):
        rows = list(Outlook(an_order()).rows())
        self.assertEqual(len({id(row) for row in rows}), len(rows))

    def test_empty_order(self):
        outlook = Outlook(Order(a_house(), 0, []))
        self.assertEqual((outlook.row_count(), list(outlook.rows())), (1, [[]]))
        self.assertEqual((outlook.first_row(), outlook.last_row()), ([], []))
        self.assertEqual(outlook.lateness_of([]), 0)
        self.assertIs([] in outlook, True)
        self.assertIs([(0,)] in outlook, False)

    def test_two_thousand_rows(self):
        house = House(1, 1, walk=(0, 4), pack=(0, 4))
        piece = Piece("a", grid=Grid(1), least=1, most=5, delay=7)
        pause = Break("b", grid=Grid(1), minute=0, places=1, unit=1, delay=1)
        outlook = Outlook(Order(house, 0, [piece, pause]))
        self.assertEqual(outlook.row_count(), 2000)
        rows = list(outlook.rows())
        self.assertEqual(rows, rows_within(plain_bounds(outlook.order)))
        self.assertEqual(len(rows), 2000)

    def test_more_than_two_thousand_rows(self):
        house = House(1, 1, walk=(0, 6), pack=(0, 3))
        order = Order(house, 0, [Piece("a", grid=Grid(1), least=1, most=8, delay=8)])
        outlook = Outlook(order)
        self.assertEqual(outlook.row_count(), 2016)
        self.refuses(TooMany("rows", 2000), lambda: list(outlook.rows()))
        self.refuses(TooMany("rows", 2000), lambda: next(outlook.rows()))
        self.assertEqual(len(list(outlook.narrowed("a", "delay", 0, 7).rows())), 1792)

    def test_very_many_rows(self):
        house = House(1, 1, walk=(0, 8), pack=(0, 8))
        lineup = [Piece(f"x{k}", grid=Grid(1), least=1, most=9, delay=8) for k in range(8)]
        outlook = Outlook(Order(house, 0, lineup))
        self.assertEqual(outlook.row_count(), 9 ** 32)
        self.refuses(TooMany("rows", 2000), lambda: list(outlook.rows()))
        self.assertEqual(outlook.lateness_of(outlook.last_row()), 256)


class TestContains(Case):
    def test_lags_at_their_bounds_and_beyond(self):
        for outlook in outlooks("contains", 3000):
            bounds = outlook_bounds(outlook)
            least = outlook.first_row()
            for number, pairs in enumerate(bounds):
                for at, (low, high) in enumerate(pairs):
                    for lag in [low - 1, low, high, high + 1]:
                        row = changed(least, number, at, lag)
                        self.assertIs(row in outlook, low <= lag <= high)

    def test_sizes(self):
        outlook = Outlook(an_order())
        self.assertIs(LEAST in outlook, True)
        self.assertIs(tuple(MOST) in outlook, True)
        for row in [[], LEAST[:3], LEAST + [(0,)], [(0,)] * 4, [()] * 4,
                    [(0,), (0, 4, 1), (0, 7, 1, 3), (0,)], [(0,), (0, 4, 1, 3, 0), *LEAST[2:]],
                    [(0, 0), *LEAST[1:]], [(), *LEAST[1:]], [(0, 4, 1, 3), *LEAST[1:]]]:
            self.assertIs(row in outlook, False)


class TestLateness(Case):
    def test_lateness(self):
        for outlook in outlooks("lateness", 200):
            bounds = outlook_bounds(outlook)
            for row in outlook.rows():
                right = sum(lag - low for pairs, lags in zip(bounds, row)
                            for (low, _), lag in zip(pairs, lags))
                self.assertEqual(outlook.lateness_of(row), right)

    def test_walks_and_packs_count(self):
        outlook = Outlook(an_order())
        self.assertEqual(outlook.lateness_of(LEAST), 0)
        self.assertEqual(outlook.lateness_of(MOST), 12)
        self.assertEqual(outlook.lateness_of(tuple(MOST)), 12)
        self.assertEqual(outlook.lateness_of(changed(LEAST, 1, 3, 5)), 2)

    def test_row_stays(self):
        outlook = Outlook(an_order())
        for row in [list(MOST), MOST[:2], [*MOST[:3], (9,)]]:
            before = list(row)
            self.assertIs(row in outlook, row == MOST)
            if row == MOST:
                outlook.lateness_of(row)
            elif len(row) == 2:
                self.refuses(BadSize(2), outlook.lateness_of, row)
            else:
                self.refuses(BadRow("eve"), outlook.lateness_of, row)
            self.assertEqual(row, before)

    def test_bad_size(self):
        outlook = Outlook(an_order())
        self.refuses(BadSize(0), outlook.lateness_of, [])
        self.refuses(BadSize(3), outlook.lateness_of, [(99,), (), (0,)])
        self.refuses(BadSize(5), outlook.lateness_of, LEAST + [(0,)])

    def test_bad_row(self):
        outlook = Outlook(an_order()).narrowed("talk", "length", 5, 5).narrowed("song", "pack", 4, 5)
        right = [(0,), (0, 5, 1, 3), (0, 7, 1, 4), (0,)]
        self.assertEqual(outlook.lateness_of(right), 0)
        self.refuses(BadRow("talk"), outlook.lateness_of, changed(right, 1, 1, 4))
        self.refuses(BadRow("talk"), outlook.lateness_of, changed(right, 1, 1, 6))
        self.refuses(BadRow("song"), outlook.lateness_of, changed(right, 2, 3, 3))
        self.refuses(BadRow("talk"), outlook.lateness_of, LEAST)
        self.refuses(BadRow("noon"), outlook.lateness_of, [(0, 0), *right[1:]])
        self.refuses(BadRow("song"), outlook.lateness_of, [*right[:2], (0, 7, 1), (0,)])
        self.refuses(BadRow("song"), outlook.lateness_of, [*right[:2], (0, 7, 1, 4, 0), (5,)])


class TestWithin(Case):
    def test_all_ways_to_narrow_one_lag(self):
        full = Outlook(an_order())
        for name, word in lags_of(full.order):
            span = full.span_of(name, word)
            parts = [(low, high) for low in range(span.low, span.high + 1)
                     for high in range(low, span.high + 1)]
            for part in parts:
                for other in parts:
                    first = full.narrowed(name, word, *part)
                    second = full.narrowed(name, word, *other)
                    right = other[0] <= part[0] and part[1] <= other[1]
                    self.assertIs(first.within(second), right)

    def test_against_the_rows(self):
        for number, order in enumerate(many_orders("within", 40, 60)):
            first = narrowed_at_random(Outlook(order), f"a{number}")
            second = narrowed_at_random(Outlook(order), f"b{number}")
            right = all(row in second for row in first.rows())
            self.assertIs(first.within(second), right)
            self.assertIs(first.within(Outlook(order)), True)
            self.assertEqual(Outlook(order).within(first),
                             count_rows(plain_bounds(order)) == first.row_count())

    def test_two_lags(self):
        full = Outlook(an_order())
        first = full.narrowed("talk", "walk", 1, 1)
        second = full.narrowed("talk", "pack", 4, 4)
        self.assertIs(first.within(second), False)
        self.assertIs(second.within(first), False)
        self.assertIs(first.narrowed("talk", "pack", 4, 4).within(second), True)

    def test_names_play_no_part(self):
        first = Order(a_house(), 0, [a_piece("a", delay=1), a_break("b")])
        second = Order(a_house(ahead=3), 9, [a_piece("b", delay=2), a_break("a", minute=80)])
        self.assertIs(Outlook(first).within(Outlook(second)), True)
        self.assertIs(Outlook(second).within(Outlook(first)), False)

    def test_other_shapes(self):
        piece, pause = a_piece("a"), a_break("b")
        full = Outlook(Order(a_house(), 0, [piece, pause]))
        for lineup in [[], [piece], [pause, piece], [piece, pause, a_break("c")]]:
            other = Outlook(Order(a_house(), 0, lineup))
            self.assertIs(full.within(other), False)
            self.assertIs(other.within(full), False)
        empty = Outlook(Order(a_house(), 0, []))
        self.assertIs(empty.within(Outlook(Order(a_house(), 8, []))), True)


if __name__ == "__main__":
    unittest.main()
