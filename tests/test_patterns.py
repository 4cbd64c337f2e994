"""Point 67: patterns."""

import unittest

from barbreaks.errors import BadSize, TooMany, Twice, Unknown
from barbreaks.grids import Grid
from barbreaks.items import Break, Piece
from barbreaks.orders import Order
from barbreaks.patterns import Pattern
from tests.helpers import Case, a_break, a_house, a_piece
from tests.pattern_days import doc_pattern, plain_orders, small_patterns

NOON, EVE = a_break("noon"), a_break("eve")
PIECES = [a_piece(name) for name in ["d", "a", "c", "b"]]


def a_pattern(count=3):
    """Gaps before, between and behind two breaks."""
    shape = [None, NOON, None, EVE, None, None][:2 * count - 1 if count < 4 else 6]
    return Pattern(a_house(), 7, shape, PIECES[:count])


def names_in(order):
    return [item.name for item in order]


class TestPattern(Case):
    def test_attributes(self):
        house = a_house()
        shape, pieces = [None, NOON, None], PIECES[:2]
        pattern = Pattern(house, 7, shape, pieces)
        shape.clear()
        pieces.clear()
        self.assertIs(pattern.house, house)
        self.assertEqual(pattern.opens, 7)
        self.assertEqual(pattern.shape, (None, NOON, None))
        self.assertEqual(pattern.pieces, tuple(PIECES[:2]))
        self.assertIs(type(Pattern(house, 7, (None,), (PIECES[0],)).shape), tuple)

    def test_without_pieces(self):
        for shape in [[], [NOON], [NOON, EVE]]:
            pattern = Pattern(a_house(), 0, shape, [])
            self.assertEqual(names_in(pattern.order_of([])), [item.name for item in shape])
            self.assertEqual(names_in(pattern.beginning([])), [item.name for item in shape])
            self.assertEqual(list(pattern.orders()), [[]])

    def test_four_and_five_pieces(self):
        self.assertEqual(len(Pattern(a_house(), 0, [None] * 4, PIECES).pieces), 4)
        five = [*PIECES, a_piece("e")]
        self.refuses(TooMany("pieces", 4), Pattern, a_house(), 0, [None] * 5, five)

    def test_numbers_of_gaps(self):
        self.refuses(BadSize(2), Pattern, a_house(), 0, [None, NOON], PIECES[:2])
        self.refuses(BadSize(1), Pattern, a_house(), 0, [None, None], PIECES[:1])
        self.refuses(BadSize(0), Pattern, a_house(), 0, [None], [])
        self.refuses(BadSize(1), Pattern, a_house(), 0, [NOON], PIECES[:1])

    def test_checks_of_the_order(self):
        breaks = [a_break(f"b{number}", places=1) for number in range(7)]
        self.assertEqual(len(Pattern(a_house(), 0, [*breaks, None], PIECES[:1]).order_of(["d"])), 8)
        self.refuses(TooMany("items", 8), Pattern, a_house(), 0, [*breaks, None, None], PIECES[:2])
        self.refuses(Twice("d"), Pattern, a_house(), 0, [None, None], [PIECES[0], PIECES[0]])
        self.refuses(Twice("d"), Pattern, a_house(), 0, [None, a_break("d")], PIECES[:1])
        # The breaks and pieces are gone through in the order of the lineup.
        self.refuses(Twice("d"), Pattern, a_house(), 0, [a_break("d"), None, NOON, NOON], PIECES[:1])
        self.refuses(Twice("noon"), Pattern, a_house(), 0, [a_break("d"), NOON, NOON, None], PIECES[:1])
        big = [a_break(f"b{number}", places=12) for number in range(3)]
        self.refuses(TooMany("places", 30), Pattern, a_house(), 0, [*big, None], PIECES[:1])

    def test_order_of_the_checks(self):
        five = [*PIECES, a_piece("d")]
        self.refuses(TooMany("pieces", 4), Pattern, a_house(), 0, [], five)
        self.refuses(BadSize(2), Pattern, a_house(), 0, [NOON, NOON], [PIECES[0], PIECES[0]])


class TestOrderOf(Case):
    def test_fills_the_gaps(self):
        pattern = a_pattern()
        order = pattern.order_of(["c", "d", "a"])
        self.assertIs(type(order), Order)
        self.assertEqual(names_in(order), ["c", "noon", "d", "eve", "a"])
        self.assertIs(order.house, pattern.house)
        self.assertEqual(order.opens, 7)
        self.assertIs(order["noon"], NOON)
        self.assertIs(order["a"], PIECES[1])
        self.assertEqual(names_in(pattern.order_of(("d", "a", "c"))), ["d", "noon", "a", "eve", "c"])

    def test_gaps_side_by_side(self):
        self.assertEqual(names_in(a_pattern(4).order_of(["b", "a", "d", "c"])),
                         ["b", "noon", "a", "eve", "d", "c"])

    def test_checks(self):
        pattern = a_pattern()
        for names in [[], ["d", "a"], ["d", "a", "c", "b"], ["x", "x"]]:
            self.refuses(BadSize(len(names)), pattern.order_of, names)
        self.refuses(Unknown("noon"), pattern.order_of, ["d", "noon", "x"])
        self.refuses(Unknown("b"), pattern.order_of, ["d", "d", "b"])
        self.refuses(Twice("a"), pattern.order_of, ["a", "d", "a"])
        self.refuses(Twice("d"), pattern.order_of, ["d", "d", "d"])


class TestBeginning(Case):
    def test_ends_before_a_gap(self):
        pattern = a_pattern()
        for names, due in [([], []), (["c"], ["c", "noon"]), (["c", "d"], ["c", "noon", "d", "eve"]),
                           (["c", "d", "a"], ["c", "noon", "d", "eve", "a"])]:
            self.assertEqual(names_in(pattern.beginning(names)), due)
            self.assertIs(pattern.beginning(names).house, pattern.house)
            self.assertEqual(pattern.beginning(names).opens, 7)

    def test_breaks_before_the_first_gap_and_behind_the_last(self):
        pattern = Pattern(a_house(), 0, [NOON, None, EVE], PIECES[:1])
        self.assertEqual(names_in(pattern.beginning([])), ["noon"])
        self.assertEqual(names_in(pattern.beginning(["d"])), ["noon", "d", "eve"])

    def test_gaps_side_by_side(self):
        pattern = a_pattern(4)
        self.assertEqual(names_in(pattern.beginning(["a", "b", "c"])), ["a", "noon", "b", "eve", "c"])

    def test_checks(self):
        pattern = a_pattern()
        self.refuses(BadSize(4), pattern.beginning, ["x", "x", "d", "d"])
        self.refuses(Unknown("b"), pattern.beginning, ["d", "d", "b"])
        self.refuses(Unknown("eve"), pattern.beginning, ["eve"])
        self.refuses(Twice("d"), pattern.beginning, ["d", "d"])


class TestOrders(Case):
    def test_search_order(self):
        self.assertEqual(list(a_pattern(3).orders()), [
            ["d", "a", "c"], ["d", "c", "a"], ["a", "d", "c"], ["a", "c", "d"], ["c", "d", "a"],
            ["c", "a", "d"]])
        self.assertEqual(list(doc_pattern().orders()), [["long", "short"], ["short", "long"]])
        self.assertEqual(list(a_pattern(1).orders()), [["d"]])

    def test_many_patterns(self):
        for pattern in [a_pattern(4), *small_patterns("orders", 20, 10 ** 9)]:
            self.assertEqual(list(pattern.orders()), plain_orders(pattern))

    def test_is_a_generator(self):
        found = a_pattern(2).orders()
        self.assertIs(iter(found), found)
        first = next(found)
        first.clear()
        self.assertEqual(list(found), [["a", "d"]])
        self.assertEqual(list(a_pattern(2).orders()), [["d", "a"], ["a", "d"]])


class TestPieces(Case):
    def test_pieces_keep_what_they_are(self):
        talk = Piece("talk", grid=Grid(3, 1), least=2, most=5, minute=4, delay=3)
        gap = Break("gap", grid=Grid(2), minute=9, places=2, unit=3, patience=4)
        pattern = Pattern(a_house(), 0, [gap, None], [talk])
        self.assertEqual([item.words() for item in pattern.order_of(["talk"])], [gap.words(), talk.words()])


if __name__ == "__main__":
    unittest.main()
