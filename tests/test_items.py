"""Points 10 to 13: names, times, items, pieces and breaks."""

import unittest

from barbreaks.errors import BadName, BadNumber
from barbreaks.grids import Grid
from barbreaks.items import Break, Item, Named, Piece, Timed
from tests.helpers import Case, a_break, a_piece

BIG = 10 ** 40 - 1
WRONG_NAMES = ["", "A", "1a", "a-b", "a b", " a", "a\n", "abcdefghijklm"]


class TestNamed(Case):
    def test_name(self):
        for name in ["a", "noon", "abcdefghijkl", "x12"]:
            self.assertEqual(Named(name).name, name)

    def test_bad_name(self):
        for name in WRONG_NAMES:
            self.refuses(BadName(name), Named, name)


class TestTimed(Case):
    def test_attributes(self):
        grid = Grid(8, 3)
        timed = Timed(grid, 17, 5)
        self.assertEqual((timed.grid, timed.minute, timed.delay), (grid, 17, 5))
        timed = Timed(grid)
        self.assertEqual((timed.grid, timed.minute, timed.delay), (grid, None, 0))
        timed = Timed(grid, minute=-3, delay=8)
        self.assertEqual((timed.minute, timed.delay), (-3, 8))

    def test_delay(self):
        for delay in range(-3, 13):
            if 0 <= delay <= 8:
                self.assertEqual(Timed(Grid(1), None, delay).delay, delay)
            else:
                self.refuses(BadNumber(delay), Timed, Grid(1), None, delay)
        self.refuses(BadNumber(BIG), Timed, Grid(1), 3, BIG)

    def test_class_value(self):
        self.assertEqual(Timed.MOST_DELAY, 8)

    def test_begin_without_minute(self):
        timed = Timed(Grid(10, 3), None, 2)
        for moment, delay, begin in [(3, 0, 3), (4, 0, 13), (3, 1, 13), (12, 1, 13), (12, 2, 23),
                                     (-7, 0, -7), (-6, 0, 3), (BIG, 0, BIG + 4)]:
            self.assertEqual(timed.begin_at(moment, delay), begin)

    def test_begin_with_minute(self):
        timed = Timed(Grid(10, 3), 20, 2)
        for moment, delay, begin in [(0, 0, 23), (20, 0, 23), (0, 3, 23), (0, 4, 33), (19, 4, 33),
                                     (21, 2, 23), (22, 2, 33), (23, 0, 23), (24, 0, 33)]:
            self.assertEqual(timed.begin_at(moment, delay), begin)

    def test_minute_zero_counts(self):
        self.assertEqual(Timed(Grid(10), 0).begin_at(-15, 0), 0)
        self.assertEqual(Timed(Grid(10)).begin_at(-15, 0), -10)

    def test_delay_of_begin_is_not_checked(self):
        timed = Timed(Grid(5), 10, 1)
        for delay in [-BIG, -12, -1, 2, 9, 40, BIG]:
            begin = timed.begin_at(3, delay)
            self.assertEqual(begin % 5, 0)
            self.assertTrue(10 + delay <= begin < 15 + delay)


class TestItem(Case):
    def test_attributes(self):
        item = Item("noon", grid=Grid(8, 3), minute=-17, delay=5)
        self.assertEqual((item.name, item.grid, item.minute, item.delay),
                         ("noon", Grid(8, 3), -17, 5))
        item = Item("noon", grid=Grid(8))
        self.assertEqual((item.minute, item.delay), (None, 0))

    def test_kinds(self):
        item = Item("noon", grid=Grid(8))
        self.assertIsInstance(item, Named)
        self.assertIsInstance(item, Timed)
        self.assertEqual(item.begin_at(9, 0), 16)
        self.assertEqual(Item.MOST_DELAY, 8)

    def test_checks(self):
        for name in WRONG_NAMES:
            self.refuses(BadName(name), Item, name, grid=Grid(1), delay=9)
        for delay in [-1, 9]:
            self.refuses(BadNumber(delay), Item, "a", grid=Grid(1), delay=delay)

    def test_words(self):
        self.assertEqual(Item("noon", grid=Grid(8, 3), minute=-17, delay=5).words(),
                         ["noon", "8+3", "-17", "5"])
        self.assertEqual(Item("a", grid=Grid(1)).words(), ["a", "1", "-", "0"])
        self.assertEqual(Item("a", grid=Grid(2), minute=0).words(), ["a", "2", "0", "0"])


class TestPiece(Case):
    def test_attributes(self):
        piece = Piece("talk", grid=Grid(8, 3), least=4, most=6, minute=9, delay=2)
        self.assertIsInstance(piece, Item)
        self.assertEqual((piece.name, piece.grid, piece.minute, piece.delay, piece.least,
                          piece.most), ("talk", Grid(8, 3), 9, 2, 4, 6))
        piece = Piece("talk", grid=Grid(8, 3), least=1, most=1)
        self.assertEqual((piece.minute, piece.delay, piece.least, piece.most), (None, 0, 1, 1))

    def test_class_value(self):
        self.assertEqual(Piece.MOST_SPREAD, 8)
        self.assertEqual(Piece.MOST_DELAY, 8)

    def test_least(self):
        for least in [0, -1, -BIG]:
            self.refuses(BadNumber(least), a_piece, "a", least=least, most=least)
        self.assertEqual(a_piece("a", least=1, most=1).least, 1)
        self.assertEqual(a_piece("a", least=BIG - 8, most=BIG).most, BIG)

    def test_most(self):
        for most in range(-2, 22):
            if 5 <= most <= 13:
                self.assertEqual(a_piece("a", least=5, most=most).most, most)
            else:
                self.refuses(BadNumber(most), a_piece, "a", least=5, most=most)

    def test_order_of_checks(self):
        self.refuses(BadName("A"), a_piece, "A", delay=9, least=0, most=30)
        self.refuses(BadNumber(9), a_piece, "a", delay=9, least=0, most=30)
        self.refuses(BadNumber(0), a_piece, "a", delay=8, least=0, most=30)
        self.refuses(BadNumber(30), a_piece, "a", delay=8, least=1, most=30)

    def test_words(self):
        piece = Piece("talk", grid=Grid(8, 3), least=4, most=6, minute=9, delay=2)
        self.assertEqual(piece.words(), ["talk", "8+3", "9", "2", "4", "6"])
        self.assertEqual(a_piece("a").words(), ["a", "1", "-", "0", "4", "6"])

    def test_words_are_new(self):
        piece = a_piece("a")
        piece.words().append("more")
        self.assertEqual(len(piece.words()), 6)


class TestBreak(Case):
    def test_attributes(self):
        told = {"grid": Grid(8, 3), "minute": 9, "places": 3, "unit": 7, "delay": 2, "patience": 5}
        pause = Break("noon", **told)
        self.assertIsInstance(pause, Item)
        self.assertEqual(pause.name, "noon")
        for name, value in told.items():
            self.assertEqual(getattr(pause, name), value)
        pause = Break("noon", grid=Grid(8), minute=0, places=1, unit=1)
        self.assertEqual((pause.delay, pause.patience), (0, 1))

    def test_class_values(self):
        self.assertEqual((Break.MOST_PLACES, Break.MOST_PATIENCE, Break.MOST_DELAY), (12, 64, 8))

    def test_places(self):
        for places in [-1, 0, 13, 14, BIG]:
            self.refuses(BadNumber(places), a_break, "a", places=places)
        for places in range(1, 13):
            self.assertEqual(a_break("a", places=places).places, places)

    def test_unit(self):
        for unit in [0, -1, -BIG]:
            self.refuses(BadNumber(unit), a_break, "a", unit=unit)
        for unit in [1, 2, BIG]:
            self.assertEqual(a_break("a", unit=unit).unit, unit)

    def test_patience(self):
        for patience in [0, -1, 65, 66, BIG]:
            self.refuses(BadNumber(patience), a_break, "a", patience=patience)
        for patience in [1, 2, 63, 64]:
            self.assertEqual(a_break("a", patience=patience).patience, patience)

    def test_order_of_checks(self):
        wrong = {"delay": 9, "places": 13, "unit": 0, "patience": 65}
        self.refuses(BadName("A"), a_break, "A", **wrong)
        self.refuses(BadNumber(9), a_break, "a", **wrong)
        self.refuses(BadNumber(13), a_break, "a", **{**wrong, "delay": 8})
        self.refuses(BadNumber(0), a_break, "a", **{**wrong, "delay": 8, "places": 12})
        self.refuses(BadNumber(65), a_break, "a",
                     **{**wrong, "delay": 8, "places": 12, "unit": 1})

    def test_length(self):
        self.assertEqual(a_break("a", places=3, unit=7).length, 21)
        self.assertEqual(a_break("a", places=12, unit=BIG).length, 12 * BIG)

    def test_limit(self):
        for grid, minute, patience, limit in [
                (Grid(10), 5, 1, 10), (Grid(10), 10, 1, 10), (Grid(10), 11, 1, 20),
                (Grid(10), 20, 2, 30), (Grid(8, 3), 4, 64, 11 + 63 * 8), (Grid(1), -7, 3, -5),
                (Grid(BIG), 1, 2, 2 * BIG)]:
            self.assertEqual(a_break("a", grid=grid, minute=minute, patience=patience).limit, limit)

    def test_delay_is_not_in_the_limit(self):
        self.assertEqual(a_break("a", delay=8).limit, a_break("a", delay=0).limit)

    def test_words(self):
        pause = Break("noon", grid=Grid(8, 3), minute=-9, places=3, unit=7, delay=2, patience=5)
        self.assertEqual(pause.words(), ["noon", "8+3", "-9", "2", "3", "7", "5"])
        self.assertEqual(a_break("a").words(), ["a", "10", "5", "0", "2", "5", "1"])


if __name__ == "__main__":
    unittest.main()
