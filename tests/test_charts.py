"""Point 83: charts."""

import unittest

from barbreaks.charts import chart
from barbreaks.grids import Grid
from barbreaks.houses import House
from barbreaks.items import Break, Piece
from barbreaks.orders import Order
from barbreaks.outlooks import Outlook
from barbreaks.reach import Reach
from tests.helpers import Case, a_house, doc_order, many_orders, narrowed_at_random, outlook_bounds, plain_moments
from tests.helpers import rows_within

BIG = 10 ** 40 - 1


def chart_of(order):
    return chart(Reach(Outlook(order)))


class TestChart(Case):
    def test_columns(self):
        self.assertEqual(chart_of(doc_order()), [
            "noon         break           10           10           20           20",
            "talk         piece           20           20           24           26",
            "eve          break           30           30           40           40"])

    def test_without_items(self):
        self.assertEqual(chart_of(Order(a_house(), 0, [])), [])

    def test_long_names_and_numbers(self):
        order = Order(House(1, 1), -BIG, [Piece("abcdefghijkl", grid=Grid(1), least=10 ** 12, most=10 ** 12)])
        self.assertEqual(chart_of(order), [f"abcdefghijkl piece {-BIG} {-BIG} {10 ** 12 - BIG} {10 ** 12 - BIG}"])
        order = Order(House(1, 1), -123456, [
            Piece("a", grid=Grid(1), least=1, most=2, minute=99999999999),
            Break("b", grid=Grid(1), minute=10 ** 11, places=1, unit=10 ** 12)])
        self.assertEqual(chart_of(order), [
            "a            piece  99999999999  99999999999 100000000000 100000000001",
            "b            break 100000000000 100000000001 1100000000000 1100000000001"])

    def test_negative_numbers(self):
        order = Order(House(1, 1), -20, [Piece("a", grid=Grid(1), least=1, most=2, delay=1)])
        self.assertEqual(chart_of(order), ["a            piece          -20          -19          -19          -17"])

    def test_against_all_rows(self):
        for number, order in enumerate(many_orders("charts", 30, 300)):
            for outlook in [Outlook(order), narrowed_at_random(Outlook(order), number)]:
                runs = [plain_moments(order, row) for row in rows_within(outlook_bounds(outlook))]
                lines = chart(Reach(outlook))
                self.assertIs(type(lines), list)
                self.assertEqual(len(lines), len(order))
                for at, (item, line) in enumerate(zip(order, lines)):
                    begins = [moments[2 * at + 1] for moments in runs]
                    ends = [moments[2 * at + 2] for moments in runs]
                    word = "piece" if isinstance(item, Piece) else "break"
                    numbers = [min(begins), max(begins), min(ends), max(ends)]
                    self.assertEqual(line.split(), [item.name, word, *[str(moment) for moment in numbers]])
                    self.assertEqual(len(line), 12 + 6 + 4 * 13)
                    self.assertTrue(line.startswith(item.name + " "))


if __name__ == "__main__":
    unittest.main()
