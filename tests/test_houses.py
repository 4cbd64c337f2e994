"""Point 14: houses."""

import unittest

from barbreaks.errors import BadName, BadNumber, BadSpan, TooMany, Twice
from barbreaks.houses import House
from barbreaks.spans import Span
from tests.helpers import Case

BIG = 10 ** 40 - 1


class TestHouse(Case):
    def test_attributes(self):
        house = House(2, 3, ["cars", "soap"], walk=(1, 4), pack=(0, 8), ahead=2, apart=14)
        self.assertEqual((house.studios, house.crews, house.ahead, house.apart), (2, 3, 2, 14))
        self.assertEqual(house.kinds, ("cars", "soap"))
        self.assertIs(type(house.kinds), tuple)
        self.assertEqual((house.walk, house.pack), (Span(1, 4), Span(0, 8)))

    def test_what_is_left_out(self):
        house = House(1, 1)
        self.assertEqual((house.kinds, house.walk, house.pack, house.ahead, house.apart),
                         ((), Span(0, 0), Span(0, 0), 1, 1))

    def test_studios_and_crews(self):
        for number in range(-2, 9):
            if 1 <= number <= 6:
                self.assertEqual(House(number, 1).studios, number)
                self.assertEqual(House(1, number).crews, number)
            else:
                self.refuses(BadNumber(number), House, number, 1)
                self.refuses(BadNumber(number), House, 1, number)

    def test_five_and_six_kinds(self):
        five = ["a", "b", "c", "d", "e"]
        self.assertEqual(House(1, 1, five).kinds, tuple(five))
        self.refuses(TooMany("kinds", 5), House, 1, 1, five + ["f"])
        self.refuses(TooMany("kinds", 5), House, 1, 1, ["A"] * 6)
        self.refuses(TooMany("kinds", 5), House, 1, 1, ["a"] * 60)

    def test_kinds_one_by_one(self):
        self.refuses(BadName("B"), House, 1, 1, ["a", "B", "a"])
        self.refuses(BadName(""), House, 1, 1, ["", ""])
        self.refuses(Twice("a"), House, 1, 1, ["a", "a", "B"])
        self.refuses(Twice("b"), House, 1, 1, ["a", "b", "c", "b", "a"])
        self.refuses(Twice("a"), House, 1, 1, ("a", "b", "c", "d", "a"))
        self.refuses(BadName("c!"), House, 1, 1, ["a", "b", "c!"])

    def test_kinds_as_a_tuple(self):
        self.assertEqual(House(1, 1, ("a", "b")).kinds, ("a", "b"))

    def test_kinds_are_copied(self):
        kinds = ["a", "b"]
        house = House(1, 1, kinds)
        kinds.append("c")
        self.assertEqual(house.kinds, ("a", "b"))
        self.assertEqual(kinds, ["a", "b", "c"])

    def test_walk_and_pack(self):
        for low, high in [(0, 0), (0, 8), (3, 3), (3, 11), (BIG - 8, BIG)]:
            self.assertEqual(House(1, 1, walk=(low, high)).walk, Span(low, high))
            self.assertEqual(House(1, 1, pack=(low, high)).pack, Span(low, high))
        for low, high in [(-1, 0), (-1, -1), (2, 1), (0, 9), (3, 12), (1, 0), (0, -1), (0, BIG)]:
            self.refuses(BadSpan(low, high), House, 1, 1, walk=(low, high))
            self.refuses(BadSpan(low, high), House, 1, 1, pack=(low, high))

    def test_walk_is_not_pack(self):
        house = House(1, 1, walk=(1, 2), pack=(3, 5))
        self.assertEqual((house.walk.low, house.walk.high), (1, 2))
        self.assertEqual((house.pack.low, house.pack.high), (3, 5))

    def test_ahead(self):
        for ahead in range(-1, 6):
            if 1 <= ahead <= 3:
                self.assertEqual(House(1, 1, ahead=ahead).ahead, ahead)
            else:
                self.refuses(BadNumber(ahead), House, 1, 1, ahead=ahead)

    def test_apart(self):
        for apart in [1, 2, BIG]:
            self.assertEqual(House(1, 1, apart=apart).apart, apart)
        for apart in [0, -1, -BIG]:
            self.refuses(BadNumber(apart), House, 1, 1, apart=apart)

    def test_order_of_checks(self):
        right = [("studios", 1), ("crews", 1), ("kinds", ["a"]), ("walk", (0, 0)),
                 ("pack", (0, 0)), ("ahead", 1), ("apart", 1)]
        wrong = [(7, BadNumber(7)), (8, BadNumber(8)), (["a", "a"], Twice("a")),
                 ((2, 1), BadSpan(2, 1)), ((4, 3), BadSpan(4, 3)), (9, BadNumber(9)),
                 (-5, BadNumber(-5))]
        for at in range(len(wrong)):
            values = {name: value for name, value in right[:at]}
            values.update({right[k][0]: wrong[k][0] for k in range(at, len(wrong))})
            call = lambda studios, crews, kinds, **more: House(studios, crews, kinds, **more)
            self.refuses(wrong[at][1], call, **values)


class TestWithApart(Case):
    def test_with_apart(self):
        house = House(2, 3, ["cars", "soap"], walk=(1, 4), pack=(0, 8), ahead=2, apart=14)
        other = house.with_apart(5)
        self.assertIs(type(other), House)
        self.assertEqual((other.studios, other.crews, other.kinds, other.walk, other.pack,
                          other.ahead, other.apart),
                         (2, 3, ("cars", "soap"), Span(1, 4), Span(0, 8), 2, 5))
        self.assertEqual(house.apart, 14)

    def test_bounds(self):
        house = House(1, 1, apart=14)
        self.assertEqual(house.with_apart(1).apart, 1)
        self.assertEqual(house.with_apart(BIG).apart, BIG)
        for apart in [0, -1]:
            self.refuses(BadNumber(apart), house.with_apart, apart)
        self.assertEqual(house.apart, 14)


if __name__ == "__main__":
    unittest.main()
