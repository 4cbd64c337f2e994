"""Points 15 to 17: orders."""

import unittest

from barbreaks.errors import BadNumber, TooMany, Twice, Unknown
from barbreaks.grids import Grid
from barbreaks.items import Break, Piece
from barbreaks.orders import Order
from tests.helpers import Case, a_break, a_house, a_piece, an_order

BIG = 10 ** 40 - 1
NAMES = ["noon", "talk", "song", "eve"]


def names(order):
    return [item.name for item in order.lineup]


def words(order):
    """All that can be told of an order without its house."""
    return order.opens, [(type(item), item.words()) for item in order.lineup]


def pieces(count):
    return [a_piece(f"x{number}") for number in range(count)]


class TestOrder(Case):
    def test_attributes(self):
        house = a_house()
        lineup = [a_break("noon"), a_piece("talk")]
        order = Order(house, -7, lineup)
        self.assertIs(order.house, house)
        self.assertEqual(order.opens, -7)
        self.assertIs(type(order.lineup), tuple)
        self.assertEqual(len(order.lineup), 2)
        self.assertTrue(all(own is given for own, given in zip(order.lineup, lineup)))

    def test_lineup_is_copied(self):
        lineup = pieces(2)
        order = Order(a_house(), 0, lineup)
        lineup.append(a_piece("more"))
        lineup[0] = a_piece("other")
        self.assertEqual(names(order), ["x0", "x1"])
        self.assertEqual(len(lineup), 3)

    def test_lineup_as_a_tuple(self):
        self.assertEqual(names(Order(a_house(), 0, tuple(pieces(3)))), ["x0", "x1", "x2"])

    def test_empty(self):
        order = Order(a_house(), 3, [])
        self.assertEqual((len(order), list(order), order.points, order.lineup), (0, [], 1, ()))
        self.assertEqual((order.piece_names(), order.break_names()), ([], []))
        self.assertIs("noon" in order, False)

    def test_eight_and_nine_items(self):
        self.assertEqual(len(Order(a_house(), 0, pieces(8))), 8)
        self.refuses(TooMany("items", 8), Order, a_house(), 0, pieces(9))
        self.refuses(TooMany("items", 8), Order, a_house(), 0, [a_break("a", places=12)] * 9)

    def test_names_that_stand_twice(self):
        self.refuses(Twice("a"), Order, a_house(), 0, [a_piece("a"), a_break("a")])
        lineup = [a_piece("a"), a_piece("b"), a_break("c"), a_break("b"), a_piece("a")]
        self.refuses(Twice("b"), Order, a_house(), 0, lineup)
        self.refuses(Twice("a"), Order, a_house(), 0, [a_break("a", places=12)] * 3)

    def test_thirty_and_thirty_one_places(self):
        sizes = [12, 12, 6]
        lineup = [a_break(f"b{k}", places=places) for k, places in enumerate(sizes)]
        self.assertEqual(len(Order(a_house(), 0, lineup + pieces(5))), 8)
        more = lineup + [a_break("more", places=1)]
        self.refuses(TooMany("places", 30), Order, a_house(), 0, more)
        lineup[2] = a_break("b2", places=7)
        self.refuses(TooMany("places", 30), Order, a_house(), 0, lineup)

    def test_as_a_container(self):
        order = an_order()
        self.assertEqual(len(order), 4)
        self.assertEqual([item.name for item in order], NAMES)
        self.assertTrue(all(given is own for given, own in zip(order, order.lineup)))
        for at, name in enumerate(NAMES):
            self.assertIs(name in order, True)
            self.assertIs(order[name], order.lineup[at])
            self.assertEqual(order.number_of(name), at)

    def test_two_loops_at_once(self):
        order = Order(a_house(), 0, pieces(3))
        self.assertEqual(len([(a, b) for a in order for b in order]), 9)

    def test_unknown_names(self):
        order = an_order()
        for name in ["", "other", "NOON", "talk "]:
            self.assertIs(name in order, False)
            self.refuses(Unknown(name), lambda name=name: order[name])
            self.refuses(Unknown(name), order.number_of, name)
            self.refuses(Unknown(name), order.begin_of, name)
            self.refuses(Unknown(name), order.end_of, name)
            self.refuses(Unknown(name), order.call_of, name)

    def test_names_of_kinds(self):
        order = an_order()
        self.assertEqual(order.piece_names(), ["talk", "song"])
        self.assertEqual(order.break_names(), ["noon", "eve"])
        order.piece_names().append("more")
        order.break_names().clear()
        self.assertEqual(order.piece_names(), ["talk", "song"])
        self.assertEqual(order.break_names(), ["noon", "eve"])


class TestPoints(Case):
    def test_points(self):
        order = an_order()
        self.assertEqual(order.points, 9)
        self.assertEqual([order.begin_of(name) for name in NAMES], [1, 3, 5, 7])
        self.assertEqual([order.end_of(name) for name in NAMES], [2, 4, 6, 8])
        for count in range(9):
            self.assertEqual(Order(a_house(), 0, pieces(count)).points, 2 * count + 1)

    def test_calls(self):
        lineup = pieces(6)
        for ahead, calls in [(1, [0, 1, 3, 5, 7, 9]), (2, [0, 0, 1, 3, 5, 7]),
                             (3, [0, 0, 0, 1, 3, 5])]:
            order = Order(a_house(ahead=ahead), 0, lineup)
            self.assertEqual([order.call_of(f"x{k}") for k in range(6)], calls)

    def test_breaks_count_for_calls(self):
        self.assertEqual(an_order().call_of("talk"), 1)
        self.assertEqual(an_order().call_of("song"), 3)

    def test_no_call_of_a_break(self):
        for name in ["noon", "eve"]:
            self.refuses(Unknown(name), an_order().call_of, name)


class TestNewOrders(Case):
    def setUp(self):
        self.order = an_order()
        self.before = words(self.order)

    def tearDown(self):
        self.assertEqual(words(self.order), self.before)

    def test_upto(self):
        for count in range(5):
            made = self.order.upto(count)
            self.assertIs(type(made), Order)
            self.assertIs(made.house, self.order.house)
            self.assertEqual(words(made), (self.before[0], self.before[1][:count]))
            self.assertEqual([name in made for name in NAMES], [k < count for k in range(4)])

    def test_upto_bad_numbers(self):
        for count in [-1, -4, 5, 6, BIG]:
            self.refuses(BadNumber(count), self.order.upto, count)
        self.refuses(BadNumber(1), Order(a_house(), 0, []).upto, 1)

    def test_moved(self):
        for ticks in [0, 1, -1, 7, -25, BIG]:
            made = self.order.moved(ticks)
            self.assertIs(made.house, self.order.house)
            self.assertEqual(made.opens, 2 + ticks)
            for old, new in zip(self.order, made):
                self.assertIs(type(new), type(old))
                self.assertEqual((new.name, new.delay), (old.name, old.delay))
                self.assertEqual(new.grid, Grid(old.grid.step, old.grid.offset + ticks))
                self.assertEqual(new.minute, None if old.minute is None else old.minute + ticks)

    def test_moved_keeps_the_rest(self):
        piece = Piece("a", grid=Grid(5, 2), least=4, most=9, minute=0, delay=3)
        pause = Break("b", grid=Grid(7), minute=3, places=4, unit=6, delay=2, patience=5)
        made = Order(a_house(), 0, [piece, pause]).moved(10)
        self.assertEqual(made["a"].words(), ["a", "5+2", "10", "3", "4", "9"])
        self.assertEqual(made["b"].words(), ["b", "7+3", "13", "2", "4", "6", "5"])

    def test_retimed(self):
        made = self.order.retimed("eve", -9)
        self.assertIs(made.house, self.order.house)
        self.assertEqual(made.opens, 2)
        self.assertEqual(made["eve"].words(), ["eve", "6", "-9", "0", "3", "4", "2"])
        self.assertEqual(words(made)[1][:3], self.before[1][:3])
        self.assertEqual(self.order.retimed("noon", 6)["noon"].words()[2:], ["6", "1", "2", "5", "1"])

    def test_retimed_unknown(self):
        for name in ["talk", "song", "other", ""]:
            self.refuses(Unknown(name), self.order.retimed, name, 4)

    def test_swapped(self):
        made = self.order.swapped("noon", "song")
        self.assertIs(made.house, self.order.house)
        self.assertEqual(made.opens, 2)
        self.assertEqual(names(made), ["song", "talk", "noon", "eve"])
        self.assertEqual([made.number_of(name) for name in NAMES], [2, 1, 0, 3])
        self.assertEqual(sorted(words(made)[1], key=str), sorted(self.before[1], key=str))
        self.assertEqual(names(self.order.swapped("eve", "talk")), ["noon", "eve", "song", "talk"])

    def test_swapped_with_itself(self):
        self.assertEqual(words(self.order.swapped("song", "song")), self.before)

    def test_swapped_unknown(self):
        self.refuses(Unknown("x"), self.order.swapped, "x", "y")
        self.refuses(Unknown("x"), self.order.swapped, "x", "noon")
        self.refuses(Unknown("y"), self.order.swapped, "noon", "y")
        self.refuses(Unknown("x"), self.order.swapped, "x", "x")

    def test_with_house(self):
        house = a_house(ahead=3)
        made = self.order.with_house(house)
        self.assertIs(made.house, house)
        self.assertEqual(words(made), self.before)
        self.assertEqual(made.call_of("song"), 0)
        self.assertEqual(self.order.call_of("song"), 3)


if __name__ == "__main__":
    unittest.main()
