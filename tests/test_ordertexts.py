"""Points 79 and 80: texts of orders."""

import random
import unittest

from barbreaks.errors import (BadLine, BadName, BadNumber, BadSpan, BadText, TooMany, Twice)
from barbreaks.grids import Grid
from barbreaks.houses import House
from barbreaks.items import Break, Piece
from barbreaks.orders import Order
from barbreaks.ordertexts import read_order, write_order
from tests.helpers import Case, an_order, doc_order, many_orders, wide_order
from tests.plan_days import plan_orders, words_of

BIG = 10 ** 40 - 1
DOC = ("house 2 2 1 14\nwalk 1 2\npack 0 1\nkind cars\nopens 0\nbreak noon 10 5 0 2 5 1\n"
       "piece talk 1 - 0 4 6\nbreak eve 10 20 0 2 5 2")
HEAD = ["house 2 2 1 14", "walk 1 2", "pack 0 1", "kind cars", "opens 0"]
ITEMS = ["break noon 10 5 0 2 5 1", "piece talk 1 - 0 4 6"]


class LineCase(Case):
    """Texts are given as lists of lines."""

    def faulty(self, read, lines, number, cause=None):
        """The line of this number is faulty, and the error behind it is of this class."""
        with self.assertRaises(BadLine) as caught:
            read("\n".join(lines))
        self.assertEqual(caught.exception.number, number, lines)
        found = caught.exception.__cause__
        if cause is not None:
            self.assertIs(type(found), cause, lines)


class OrderTextCase(LineCase):
    def bad(self, lines, number, cause=None):
        self.faulty(read_order, lines, number, cause)

    def bad_head(self, at, line, cause=None):
        """The line in the place of the head's line of this index is faulty."""
        self.bad([*HEAD[:at], line, *HEAD[at + 1:]], at + 1, cause)
        self.bad([*HEAD[:at], line], at + 1, cause)

    def bad_item(self, line, cause=None):
        self.bad([*HEAD, line], 6, cause)
        self.bad([*HEAD, line, "x"], 6, cause)


class TestWriteOrder(Case):
    def test_example(self):
        self.assertEqual(write_order(doc_order()), DOC)

    def test_lines(self):
        self.assertEqual(write_order(an_order()).split("\n"), [
            "house 3 4 1 14", "walk 1 2", "pack 3 5", "kind cars", "kind soap", "opens 2",
            "break noon 10 5 1 2 5 1", "piece talk 3+1 - 2 4 6", "piece song 4+3 28 1 7 7",
            "break eve 6 40 0 3 4 2"])

    def test_without_items_and_kinds(self):
        house = House(6, 5, ahead=3, apart=2)
        self.assertEqual(write_order(Order(house, -7, [])), "house 6 5 3 2\nwalk 0 0\npack 0 0\nopens -7")

    def test_long_numbers(self):
        far = 10 ** 3000
        piece = Piece("a", grid=Grid(far, 1), least=far, most=far + 1, minute=-far)
        lines = write_order(Order(House(1, 1, apart=far), -far, [piece])).split("\n")
        self.assertEqual(lines[0], f"house 1 1 1 {far}")
        self.assertEqual(lines[3:], [f"opens {-far}", f"piece a {far}+1 {-far} 0 {far} {far + 1}"])


class TestReadOrder(OrderTextCase):
    def test_what_was_written(self):
        rng = random.Random("texts")
        orders = [doc_order(), an_order(), wide_order([7, 3, 12, 5, 2, 30, 1, 9], breaks=(2, 5)),
                  wide_order([2, 5, 9, 17, 40, 64, 1000, BIG], least=BIG - 8, opens=-BIG),
                  *many_orders("texts", 40, 10 ** 9), *plan_orders("texts", 40, 10 ** 9)]
        for order in orders:
            order = order.moved(rng.randint(-50, 50)) if order.opens > -BIG else order
            text = write_order(order)
            found = read_order(text)
            self.assertIs(type(found), Order)
            self.assertEqual(words_of(found), words_of(order))
            self.assertEqual([type(item) for item in found], [type(item) for item in order])
            self.assertEqual(write_order(found), text)

    def test_example(self):
        self.assertEqual(words_of(read_order(DOC)), words_of(doc_order()))
        self.bad(["house 2 2 1 14", "walk 2 1", "pack 0 1", "opens 0"], 2, BadSpan)

    def test_house_line(self):
        for line in ["", "house", "house 2 2 1", "house 2 2 1 14 1", "House 2 2 1 14", "house  2 2 1 14",
                     " house 2 2 1 14", "house 2 2 1 14 ", "house\t2 2 1 14", "walk 1 2", "houses 2 2 1 14"]:
            self.bad_head(0, line)
        for line in ["house 0 2 1 14", "house 7 2 1 14", "house 2 0 1 14", "house 2 7 1 14", "house 2 2 0 14",
                     "house 2 2 4 14", "house 2 2 1 0", "house 2 2 1 -1", "house -2 2 1 14"]:
            self.bad_head(0, line, BadNumber)
        for line in ["house x 2 1 14", "house 2 +2 1 14", "house 2 2 01 14", "house 2 2 1 1.5", "house 2 2 1 -0",
                     f"house 2 2 1 {BIG + 1}", "house 2 2 1 "]:
            self.bad_head(0, line, BadText)
        self.assertEqual(read_order("\n".join([f"house 6 6 3 {BIG}", *HEAD[1:]])).house.apart, BIG)

    def test_walk_and_pack_lines(self):
        for at, word in [(1, "walk"), (2, "pack")]:
            for rest in ["", " 1", " 1 2 3", "  1 2", " 1  2"]:
                self.bad_head(at, word + rest)
            for rest in [" 2 1", " -1 0", " 0 9", " -2 -1"]:
                self.bad_head(at, word + rest, BadSpan)
            for rest in [" 1 x", " 1 02", " 1 ", f" {BIG + 1} {BIG + 1}", " +1 2"]:
                self.bad_head(at, word + rest, BadText)
        self.bad_head(1, "pack 0 1")
        self.bad_head(2, "walk 1 2")
        self.bad_head(2, "kind cars")
        order = read_order("\n".join([HEAD[0], "walk 0 8", f"pack {BIG - 8} {BIG}", "opens 0"]))
        self.assertEqual((order.house.walk.high, order.house.pack.low), (8, BIG - 8))

    def test_kind_lines(self):
        for line in ["kind", "kind  cars", "kind cars soap", "kinds cars", "Kind cars", "cars", "", " kind cars"]:
            self.bad_head(3, line)
        for line in ["kind ", "kind Cars", "kind 1cars", "kind abcdefghijklm", "kind .", "kind a-b"]:
            self.bad_head(3, line, BadName)
        self.bad([*HEAD[:4], "kind soap", "kind cars", HEAD[4]], 6, Twice)
        kinds = [f"kind k{number}" for number in range(6)]
        self.assertEqual(read_order("\n".join([*HEAD[:3], *kinds[:5], "opens 0"])).house.kinds,
                         ("k0", "k1", "k2", "k3", "k4"))
        self.bad([*HEAD[:3], *kinds, "opens 0"], 9, TooMany)
        self.bad([*HEAD[:3], *kinds[:5], "kind X", "opens 0"], 9)

    def test_opens_line(self):
        for line in ["opens", "opens  0", "opens 0 0", "open 0", "Opens 0", "", "opens\t0", "piece talk 1 - 0 4 6"]:
            self.bad_head(4, line)
        for line in ["opens x", "opens +0", "opens 00", "opens -", "opens ", f"opens {BIG + 1}", f"opens -{BIG + 1}"]:
            self.bad_head(4, line, BadText)
        for tick in [-BIG, -1, 0, BIG]:
            self.assertEqual(read_order("\n".join([*HEAD[:4], f"opens {tick}"])).opens, tick)

    def test_a_text_that_ends_before_its_opening(self):
        for count in range(1, 5):
            self.bad(HEAD[:count], count + 1)
        self.bad([*HEAD[:4], "kind soap"], 6)
        self.bad([""], 1)
        self.assertEqual(words_of(read_order("\n".join(HEAD)))[7:], [0])

    def test_lines_behind_the_opening(self):
        for line in ["", "opens 0", "kind soap", "house 2 2 1 14", "walk 1 2", "x", " ", "noon 10 5 0 2 5 1"]:
            self.bad_item(line)
        self.bad([*HEAD, *ITEMS[:1], ""], 7)
        self.bad([*HEAD, ""], 6)

    def test_piece_lines(self):
        self.assertEqual(read_order("\n".join([*HEAD, "piece talk 8+3 -4 8 4 12"]))["talk"].words(),
                         ["talk", "8+3", "-4", "8", "4", "12"])
        self.assertIsNone(read_order("\n".join([*HEAD, "piece talk 1 - 0 4 6"]))["talk"].minute)
        for line in ["piece", "piece talk 1 - 0 4", "piece talk 1 - 0 4 6 1", "Piece talk 1 - 0 4 6",
                     "piece talk  1 - 0 4 6", " piece talk 1 - 0 4 6", "piece talk 1 - 0 4 6 ",
                     "piece talk\t1 - 0 4 6", "break talk 1 - 0 4 6"]:
            self.bad_item(line)
        for line in ["piece Talk 1 - 0 4 6", "piece 1talk 1 - 0 4 6", "piece abcdefghijklm 1 - 0 4 6"]:
            self.bad_item(line, BadName)
        for line in ["piece talk 1+0 - 0 4 6", "piece talk 0 - 0 4 6", "piece talk 8+8 - 0 4 6", "piece talk -1 - 0 4 6",
                     "piece talk x - 0 4 6", "piece talk 1 x 0 4 6", "piece talk 1 -- 0 4 6", "piece talk 1 - - 4 6",
                     "piece talk 1 - 0 - 6", "piece talk 1 - 0 4 -", "piece talk 1 - 0 04 6", "piece talk 1 + 0 4 6",
                     f"piece talk {BIG + 1} - 0 4 6", f"piece talk 1 {BIG + 1} 0 4 6",
                     f"piece talk 1 - 0 {BIG + 1} {BIG + 1}"]:
            self.bad_item(line, BadText)
        for line in ["piece talk 1 - 9 4 6", "piece talk 1 - -1 4 6", "piece talk 1 - 0 0 6", "piece talk 1 - 0 4 3",
                     "piece talk 1 - 0 4 13", "piece talk 1 - 0 -4 -3"]:
            self.bad_item(line, BadNumber)

    def test_break_lines(self):
        line = f"break noon {BIG}+{BIG - 1} {-BIG} 8 12 {BIG} 64"
        self.assertEqual(read_order("\n".join([*HEAD, line]))["noon"].words(), line.split(" ")[1:])
        for line in ["break", "break noon 10 5 0 2 5", "break noon 10 5 0 2 5 1 1", "break  noon 10 5 0 2 5 1",
                     "break noon 10 5 0 2 5 1 ", "piece noon 10 5 0 2 5 1", "breaks noon 10 5 0 2 5 1"]:
            self.bad_item(line)
        for line in ["break noon 10 - 0 2 5 1", "break noon 10 5 0 2 5 -", "break noon 10+0 5 0 2 5 1",
                     "break noon 10+10 5 0 2 5 1", "break noon 10+x 5 0 2 5 1", "break noon 10 05 0 2 5 1",
                     f"break noon 10 5 0 2 {BIG + 1} 1", f"break noon 10+{BIG + 1} 5 0 2 5 1"]:
            self.bad_item(line, BadText)
        for line in ["break noon 10 5 9 2 5 1", "break noon 10 5 0 0 5 1", "break noon 10 5 0 13 5 1",
                     "break noon 10 5 0 2 0 1", "break noon 10 5 0 2 5 0", "break noon 10 5 0 2 5 65"]:
            self.bad_item(line, BadNumber)
        self.bad_item("break Noon 10 5 0 2 5 1", BadName)

    def test_what_the_order_refuses(self):
        pieces = [f"piece p{number} 1 - 0 4 6" for number in range(9)]
        self.assertEqual(len(read_order("\n".join([*HEAD, *pieces[:8]]))), 8)
        self.bad([*HEAD, *pieces], 14, TooMany)
        self.bad([*HEAD, *pieces[:3], pieces[1], *pieces[3:]], 9, Twice)
        self.bad([*HEAD, "piece noon 1 - 0 4 6", "break noon 10 5 0 2 5 1"], 7, Twice)
        breaks = [f"break b{number} 10 5 0 12 5 1" for number in range(3)]
        self.bad([*HEAD, *breaks, "x"], 8, TooMany)
        few = "break b3 10 5 0 6 5 1"
        self.assertEqual(len(read_order("\n".join([*HEAD, *breaks[:2], few, pieces[0]]))), 4)
        self.bad([*HEAD, *breaks[:2], few, pieces[0], "break b4 10 5 0 1 5 1"], 10, TooMany)

    def test_the_first_faulty_line_counts(self):
        self.bad(["house 2 2 1 14", "walk 2 1", "pack 9", "kind X"], 2, BadSpan)
        self.bad(["house 2 2 1 14", "walk 1 2", "pack 9", "kind X"], 3)
        self.bad(["house 9 2 1 14", "walk 2 1"], 1, BadNumber)
        self.bad([*HEAD, "piece talk 1 - 0 4 6", "x", "piece talk 1 - 0 4 6"], 7)

    def test_no_error_behind_a_form(self):
        for lines in [[""], ["x"], [*HEAD, ""], [*HEAD, "piece"], HEAD[:2]]:
            with self.assertRaises(BadLine) as caught:
                read_order("\n".join(lines))
            self.assertIsNone(caught.exception.__cause__)

    def test_long_texts(self):
        self.bad([*HEAD, *["piece a 1 - 0 4 6"] * 3000], 7, Twice)
        self.bad([*HEAD, *[f"piece a{number} 1 - 0 4 6" for number in range(3000)]], 14, TooMany)
        self.bad(["x"] * 3000, 1)


class TestNumbers(Case):
    def test_numbers_of_more_than_forty_digits_are_written_and_not_read(self):
        order = Order(House(1, 1), 0, [Break("a", grid=Grid(1), minute=BIG, places=1, unit=1)])
        self.assertEqual(words_of(read_order(write_order(order))), words_of(order))
        later = order.moved(1)
        self.refuses(BadLine(5), read_order, write_order(later))


if __name__ == "__main__":
    unittest.main()
