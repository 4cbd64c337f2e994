"""Point 46: sheets of spots."""

import unittest

from barbreaks.errors import BadNumber, BadSize, Unknown
from barbreaks.orders import Order
from barbreaks.sheets import Sheet
from tests.helpers import Case, a_house, a_piece, an_order
from tests.spot_days import break_order, entries_of

BIG = 10 ** 40 - 1


def a_sheet():
    """Entries in both breaks of an order; the house has cars and soap."""
    return Sheet(an_order(), {"eve": ["soap", None, "cars"], "noon": [None, "cars"]})


class TestSheet(Case):
    def test_entries(self):
        order = an_order()
        sheet = Sheet(order, {"eve": ["soap", None, "cars"], "noon": [None, "cars"]})
        self.assertIs(sheet.order, order)
        self.assertEqual(sheet.entries_of("noon"), (None, "cars"))
        self.assertEqual(sheet.entries_of("eve"), ("soap", None, "cars"))
        self.assertIs(type(sheet.entries_of("eve")), tuple)
        self.assertIsNone(sheet["noon", 0])
        self.assertEqual(sheet["noon", 1], "cars")
        self.assertEqual([sheet["eve", place] for place in range(3)], ["soap", None, "cars"])

    def test_missing_breaks(self):
        sheet = Sheet(an_order(), {"eve": ("cars", "cars", "cars")})
        self.assertEqual(entries_of(sheet), {"noon": (None, None), "eve": ("cars", "cars", "cars")})
        sheet = Sheet(an_order(), {})
        self.assertEqual(entries_of(sheet), {"noon": (None, None), "eve": (None, None, None)})
        self.assertIsNone(sheet["eve", 2])
        self.assertEqual(list(sheet), [])

    def test_orders_without_breaks(self):
        for lineup in [[], [a_piece("a")]]:
            sheet = Sheet(Order(a_house(), 0, lineup), {})
            self.assertEqual(list(sheet), [])
            self.assertEqual(sheet.counts(), {"cars": 0, "soap": 0})

    def test_iteration(self):
        found = list(a_sheet())
        self.assertEqual(found, [("noon", 1, "cars"), ("eve", 0, "soap"), ("eve", 2, "cars")])
        self.assertTrue(all(type(spot) is tuple for spot in found))
        sheet = a_sheet()
        self.assertEqual([list(sheet), list(sheet)], [found, found])

    def test_counts(self):
        found = a_sheet().counts()
        self.assertIs(type(found), dict)
        self.assertEqual(list(found.items()), [("cars", 2), ("soap", 1)])
        sheet = Sheet(break_order(1, kinds=["tea", "ale", "gin"]), {"x0": ["gin"]})
        self.assertEqual(list(sheet.counts().items()), [("tea", 0), ("ale", 0), ("gin", 1)])
        self.assertEqual(Sheet(break_order(2, kinds=[]), {}).counts(), {})

    def test_dict_and_lists_are_copied(self):
        entries = ["soap", None, "cars"]
        spots = {"eve": entries}
        sheet = Sheet(an_order(), spots)
        self.assertEqual(spots, {"eve": ["soap", None, "cars"]})
        entries[0] = None
        spots["noon"] = ["cars", "cars"]
        self.assertEqual(list(sheet), [("eve", 0, "soap"), ("eve", 2, "cars")])
        self.assertEqual(sheet["eve", 0], "soap")
        self.assertEqual(sheet.entries_of("noon"), (None, None))
        self.assertEqual(sheet.counts(), {"cars": 1, "soap": 1})

    def test_dicts_are_new(self):
        sheet = a_sheet()
        sheet.counts().clear()
        self.assertEqual(sheet.counts(), {"cars": 2, "soap": 1})

    def test_strange_names(self):
        good = ["cars", None]
        for name in ["talk", "no", "", "Noon"]:
            self.refuses(Unknown(name), Sheet, an_order(), {name: good})
            self.refuses(Unknown(name), Sheet, an_order(), {"noon": good, name: good, "x": []})
            self.refuses(Unknown(name), Sheet, an_order(), {"noon": [], name: [], "x": good})
            self.refuses(Unknown(name), Sheet, an_order(), {"noon": ["talk", "ale"], name: good})

    def test_wrong_sizes(self):
        for size in [0, 1, 3, 12, 13]:
            self.refuses(BadSize(size), Sheet, an_order(), {"noon": [None] * size})
            self.refuses(BadSize(size), Sheet, an_order(), {"noon": ["ale"] * size})
            self.refuses(BadSize(size), Sheet, an_order(), {"eve": ["ale"] * 4, "noon": ["ale"] * size})
        self.refuses(BadSize(4), Sheet, an_order(), {"noon": [None] * 2, "eve": [None] * 4})

    def test_strange_entries(self):
        for entry in ["ale", "", "Cars", "noon"]:
            self.refuses(Unknown(entry), Sheet, an_order(), {"noon": [entry, "cars"]})
            self.refuses(Unknown(entry), Sheet, an_order(), {"noon": [None, entry]})
            self.refuses(Unknown(entry), Sheet, an_order(), {"noon": [entry, "gin"], "eve": []})
            self.refuses(Unknown(entry), Sheet, an_order(), {"eve": [], "noon": [entry, "gin"]})
            self.refuses(Unknown(entry), Sheet, an_order(),
                         {"eve": ["gin"] * 3, "noon": ["cars", entry]})
        self.refuses(Unknown("cars"), Sheet, break_order(1, kinds=[]), {"x0": ["cars"]})

    def test_breaks_in_the_order_of_the_lineup(self):
        self.refuses(BadSize(4), Sheet, an_order(), {"eve": [None] * 4, "noon": ["cars", "soap"]})
        self.refuses(Unknown("ale"), Sheet, an_order(), {"eve": [None] * 4, "noon": ["cars", "ale"]})
        self.refuses(BadSize(1), Sheet, an_order(), {"eve": ["ale"] * 3, "noon": ["cars"]})


class TestItems(Case):
    def get(self, sheet, name, place):
        return sheet[name, place]

    def test_unknown_names(self):
        for name in ["talk", "no", ""]:
            for place in [0, -1, 99]:
                self.refuses(Unknown(name), self.get, a_sheet(), name, place)
                self.refuses(Unknown(name), a_sheet().put, name, place, "ale")
                self.refuses(Unknown(name), a_sheet().put, name, place, None)
            self.refuses(Unknown(name), a_sheet().entries_of, name)

    def test_bad_places(self):
        for name, place in [("noon", -1), ("noon", 2), ("eve", 3), ("eve", -3), ("eve", BIG)]:
            self.refuses(BadNumber(place), self.get, a_sheet(), name, place)
            for kind in ["cars", None, "ale"]:
                self.refuses(BadNumber(place), a_sheet().put, name, place, kind)


class TestPut(Case):
    def test_put(self):
        sheet = a_sheet()
        before = entries_of(sheet)
        changed = sheet.put("eve", 1, "cars")
        self.assertIs(changed.order, sheet.order)
        self.assertEqual(entries_of(changed), {"noon": (None, "cars"), "eve": ("soap", "cars", "cars")})
        self.assertEqual(changed.counts(), {"cars": 3, "soap": 1})
        self.assertEqual(list(changed), [("noon", 1, "cars"), ("eve", 0, "soap"), ("eve", 1, "cars"),
                                         ("eve", 2, "cars")])
        self.assertEqual(entries_of(sheet), before)
        self.assertEqual(sheet.counts(), {"cars": 2, "soap": 1})

    def test_put_none(self):
        changed = a_sheet().put("noon", 1, None)
        self.assertEqual(entries_of(changed), {"noon": (None, None), "eve": ("soap", None, "cars")})
        self.assertEqual(list(changed), [("eve", 0, "soap"), ("eve", 2, "cars")])

    def test_put_what_stands_there(self):
        for name, place in [("noon", 0), ("noon", 1), ("eve", 0)]:
            sheet = a_sheet()
            same = sheet.put(name, place, sheet[name, place])
            self.assertEqual(entries_of(same), entries_of(sheet))

    def test_put_into_an_empty_sheet(self):
        sheet = Sheet(an_order(), {}).put("eve", 2, "soap").put("noon", 0, "soap")
        self.assertEqual(list(sheet), [("noon", 0, "soap"), ("eve", 2, "soap")])

    def test_refusals_change_nothing(self):
        sheet = a_sheet()
        before = entries_of(sheet)
        self.refuses(Unknown("ale"), sheet.put, "eve", 0, "ale")
        self.refuses(BadNumber(3), sheet.put, "eve", 3, "cars")
        self.refuses(Unknown("talk"), sheet.put, "talk", 0, "cars")
        self.assertEqual(entries_of(sheet), before)
        self.assertEqual(list(sheet), [("noon", 1, "cars"), ("eve", 0, "soap"), ("eve", 2, "cars")])
        spots = {"noon": ["cars", "ale"]}
        self.refuses(Unknown("ale"), Sheet, an_order(), spots)
        self.assertEqual(spots, {"noon": ["cars", "ale"]})

    def test_strange_kinds(self):
        for kind in ["ale", "", "noon", "Cars"]:
            self.refuses(Unknown(kind), a_sheet().put, "eve", 0, kind)


if __name__ == "__main__":
    unittest.main()
