"""Points 5 and 6: spans."""

import unittest

from barbreaks.errors import Apart, BadSpan, NoSpans
from barbreaks.grids import Grid
from barbreaks.spans import Span, hull
from tests.helpers import Case

BIG = 10 ** 40 - 1
SPANS = [(low, high) for low in range(-3, 4) for high in range(low, 5)]


def pairs():
    for low, high in SPANS:
        for other in SPANS:
            yield Span(low, high), Span(*other), range(low, high + 1), range(other[0], other[1] + 1)


class TestSpan(Case):
    def is_span(self, span, low, high):
        self.assertIs(type(span), Span)
        self.assertEqual((span.low, span.high), (low, high))

    def test_attributes(self):
        self.is_span(Span(-2, 5), -2, 5)
        self.is_span(Span(4, 4), 4, 4)
        self.is_span(Span(-BIG, BIG), -BIG, BIG)

    def test_bad_span(self):
        self.refuses(BadSpan(3, 2), Span, 3, 2)
        self.refuses(BadSpan(0, -1), Span, 0, -1)
        self.refuses(BadSpan(BIG, -BIG), Span, BIG, -BIG)

    def test_size(self):
        for low, high in SPANS:
            self.assertEqual(Span(low, high).size, len(range(low, high + 1)))
        self.assertEqual(Span(-BIG, BIG).size, 2 * BIG + 1)

    def test_sums_and_differences(self):
        for a, b, left, right in pairs():
            sums = [x + y for x in left for y in right]
            self.is_span(a + b, min(sums), max(sums))
            gaps = [x - y for x in left for y in right]
            self.is_span(a - b, min(gaps), max(gaps))

    def test_with_an_integer(self):
        for low, high in SPANS:
            for k in [-5, -1, 0, 1, 4, BIG]:
                self.is_span(Span(low, high) + k, low + k, high + k)
                self.is_span(k + Span(low, high), low + k, high + k)
                self.is_span(Span(low, high) - k, low - k, high - k)
                self.is_span(k - Span(low, high), k - high, k - low)

    def test_negative(self):
        for low, high in SPANS:
            self.is_span(-Span(low, high), -high, -low)

    def test_common_and_joined(self):
        for a, b, left, right in pairs():
            common = [x for x in left if x in right]
            if common:
                self.is_span(a & b, min(common), max(common))
            else:
                self.refuses(Apart(), lambda: a & b)
            self.is_span(a | b, min([*left, *right]), max([*left, *right]))

    def test_touching_and_beside(self):
        self.is_span(Span(1, 4) & Span(4, 6), 4, 4)
        self.is_span(Span(4, 6) & Span(1, 4), 4, 4)
        self.refuses(Apart(), lambda: Span(1, 4) & Span(5, 6))
        self.refuses(Apart(), lambda: Span(5, 6) & Span(1, 4))
        self.is_span(Span(1, 2) | Span(9, 9), 1, 9)
        self.is_span(Span(9, 9) | Span(1, 2), 1, 9)

    def test_contains(self):
        for low, high in SPANS:
            for x in range(-6, 8):
                self.assertIs(x in Span(low, high), low <= x <= high)
        self.assertIs(BIG in Span(0, BIG), True)
        self.assertIs(BIG + 1 in Span(0, BIG), False)

    def test_within(self):
        for a, b, left, right in pairs():
            self.assertIs(a.within(b), all(x in right for x in left))

    def test_equal(self):
        for a, b, left, right in pairs():
            self.assertIs(a == b, list(left) == list(right))
            self.assertIs(a != b, list(left) != list(right))

    def test_equals_nothing_else(self):
        for other in [(1, 2), [1, 2], 1, 2, None, "1", Grid(1, 2), {"low": 1, "high": 2}]:
            self.assertIs(Span(1, 2) == other, False)
            self.assertIs(Span(1, 2) != other, True)
            self.assertIs(other == Span(1, 2), False)
        self.assertIs(Span(3, 3) == 3, False)

    def test_operands_stay(self):
        a, b = Span(1, 5), Span(4, 8)
        for made in [a + b, a - b, a + 1, 1 + a, a - 1, 1 - a, -a, a & b, a | b, hull(a, b)]:
            self.assertIsNot(made, a)
        self.is_span(a, 1, 5)
        self.is_span(b, 4, 8)


class TestHull(Case):
    def test_hull(self):
        self.assertEqual(hull(Span(2, 3)), Span(2, 3))
        self.assertEqual(hull(Span(2, 3), Span(7, 9)), Span(2, 9))
        self.assertEqual(hull(Span(7, 9), Span(2, 3)), Span(2, 9))
        self.assertEqual(hull(Span(0, 9), Span(2, 3), Span(-1, 4)), Span(-1, 9))
        self.assertEqual(hull(*[Span(k, k + 1) for k in range(50)]), Span(0, 50))

    def test_no_spans(self):
        self.refuses(NoSpans(), hull)


if __name__ == "__main__":
    unittest.main()
