"""Points 7, 8 and 9: grids and their words."""

import unittest

from barbreaks.errors import Apart, BadNumber, BadText
from barbreaks.grids import Grid, common_grid
from barbreaks.spans import Span
from tests.helpers import Case

BIG = 10 ** 40 - 1
GRIDS = [(step, offset) for step in range(1, 9) for offset in range(step)]


def bars(step, offset, low=-70, high=140):
    """The bars of a small grid from low to high - 1, one by one."""
    return [t for t in range(low, high) if (t - offset) % step == 0]


class TestGrid(Case):
    def test_attributes(self):
        for step, offset, rest in [(8, 3, 3), (8, 0, 0), (8, 8, 0), (8, 19, 3), (8, -1, 7),
                                   (8, -8, 0), (1, 5, 0), (3, -10 ** 40 + 1, 0)]:
            grid = Grid(step, offset)
            self.assertEqual((grid.step, grid.offset), (step, rest))
        self.assertEqual((Grid(5).step, Grid(5).offset), (5, 0))

    def test_bad_step(self):
        for step in [0, -1, -8, -BIG]:
            self.refuses(BadNumber(step), Grid, step)
            self.refuses(BadNumber(step), Grid, step, 3)

    def test_bars(self):
        for step, offset in GRIDS:
            grid = Grid(step, offset)
            all_bars = bars(step, offset)
            for tick in range(-20, 21):
                self.assertEqual(grid.first_bar(tick), min(t for t in all_bars if t >= tick))
                self.assertEqual(grid.last_bar(tick), max(t for t in all_bars if t <= tick))
                self.assertIs(tick in grid, tick in all_bars)

    def test_bars_of_great_grids(self):
        grid = Grid(BIG, 5)
        self.assertEqual(grid.first_bar(5), 5)
        self.assertEqual(grid.first_bar(6), BIG + 5)
        self.assertEqual(grid.first_bar(-10 ** 39), 5)
        self.assertEqual(grid.last_bar(4), 5 - BIG)
        self.assertIs(5 - 7 * BIG in grid, True)
        self.assertIs(6 - 7 * BIG in grid, False)

    def test_bars_between(self):
        for step, offset in GRIDS:
            grid = Grid(step, offset)
            for low in range(-12, 13, 1):
                for high in range(low - 9, low + 20):
                    self.assertEqual(grid.bars_between(low, high),
                                     len([t for t in range(low, high) if (t - offset) % step == 0]))

    def test_bars_between_far_ends(self):
        self.assertEqual(Grid(10 ** 39, 1).bars_between(1, BIG), 10)
        self.assertEqual(Grid(10, 3).bars_between(-BIG, BIG), (2 * BIG + 9) // 10)
        self.assertEqual(Grid(10).bars_between(BIG, -BIG), 0)
        self.assertEqual(Grid(10).bars_between(50, 20), 0)
        self.assertEqual(Grid(10).bars_between(20, 20), 0)

    def test_later_and_earlier(self):
        for step, offset in GRIDS:
            for k in [-25, -8, -1, 0, 1, 3, 17, BIG]:
                for made, rest in [(Grid(step, offset) + k, offset + k),
                                   (k + Grid(step, offset), offset + k),
                                   (Grid(step, offset) - k, offset - k)]:
                    self.assertIs(type(made), Grid)
                    self.assertEqual((made.step, made.offset), (step, rest % step))

    def test_common_bars(self):
        for step, offset in GRIDS:
            for other_step, other_offset in GRIDS:
                first, second = Grid(step, offset), Grid(other_step, other_offset)
                both = [t for t in bars(step, offset) if (t - other_offset) % other_step == 0]
                if both:
                    common = first & second
                    self.assertIs(type(common), Grid)
                    self.assertEqual(bars(common.step, common.offset), both)
                    self.assertTrue(0 <= common.offset < common.step)
                else:
                    self.refuses(Apart(), lambda: first & second)

    def test_great_common_bars(self):
        first, second = Grid(10 ** 39, 7), Grid(10 ** 39 - 1, 12)
        common = first & second
        self.assertEqual(common.step, 10 ** 39 * (10 ** 39 - 1))
        self.assertIs(common.offset in first, True)
        self.assertIs(common.offset in second, True)
        first, second = Grid(6 * 10 ** 38, 11), Grid(9 * 10 ** 38, 11 + 3 * 10 ** 38)
        common = first & second
        self.assertEqual(common.step, 18 * 10 ** 38)
        self.assertIs(common.offset in first and common.offset in second, True)
        self.refuses(Apart(), lambda: Grid(10 ** 39, 7) & Grid(10 ** 38, 8))

    def test_operands_stay(self):
        first, second = Grid(8, 3), Grid(6, 1)
        for made in [first + 1, 1 + first, first - 1, first & second, common_grid(first, second)]:
            self.assertIsNot(made, first)
        self.assertEqual((first.step, first.offset, second.step, second.offset), (8, 3, 6, 1))

    def test_within(self):
        for step, offset in GRIDS:
            for other_step, other_offset in GRIDS:
                first, second = Grid(step, offset), Grid(other_step, other_offset)
                right = all((t - other_offset) % other_step == 0 for t in bars(step, offset))
                self.assertIs(first.within(second), right)
                if right:
                    for tick in range(-15, 16):
                        self.assertEqual(first.first_bar(second.first_bar(tick)),
                                         first.first_bar(tick))

    def test_equal(self):
        for step, offset in GRIDS:
            for other in GRIDS:
                self.assertIs(Grid(step, offset) == Grid(*other), (step, offset) == other)
                self.assertIs(Grid(step, offset) != Grid(*other), (step, offset) != other)
        self.assertIs(Grid(8, 11) == Grid(8, -5), True)

    def test_equals_nothing_else(self):
        for other in [(8, 3), [8, 3], 8, None, "8+3", Span(3, 8)]:
            self.assertIs(Grid(8, 3) == other, False)
            self.assertIs(Grid(8, 3) != other, True)
            self.assertIs(other == Grid(8, 3), False)


class TestCommonGrid(Case):
    def test_of_none_and_one(self):
        self.assertEqual(common_grid(), Grid(1))
        self.assertEqual(common_grid(Grid(8, 3)), Grid(8, 3))

    def test_of_some(self):
        self.assertEqual(common_grid(Grid(4, 1), Grid(6, 3)), Grid(12, 9))
        self.assertEqual(common_grid(Grid(2, 1), Grid(3, 2), Grid(5, 4)), Grid(30, 29))
        self.assertEqual(common_grid(Grid(4, 3), Grid(6, 1), Grid(10, 7), Grid(1)), Grid(60, 7))

    def test_apart(self):
        self.refuses(Apart(), common_grid, Grid(4, 1), Grid(6, 2))
        self.refuses(Apart(), common_grid, Grid(2), Grid(3), Grid(6, 1))
        self.refuses(Apart(), common_grid, Grid(9), Grid(2), Grid(9, 3))

    def test_of_sixty(self):
        steps = [10 ** 39 + k for k in range(60)]
        common = common_grid(*[Grid(step, 17) for step in steps])
        self.assertEqual(common.offset, 17)
        for step in steps:
            self.assertEqual(common.step % step, 0)
        self.assertTrue(10 ** 1500 < common.step < 10 ** 2400)


class TestWords(Case):
    def test_word(self):
        self.assertEqual(str(Grid(8)), "8")
        self.assertEqual(str(Grid(8, 3)), "8+3")
        self.assertEqual(str(Grid(8, 11)), "8+3")
        self.assertEqual(str(Grid(8, -8)), "8")
        self.assertEqual(str(Grid(1, 9)), "1")
        self.assertEqual(str(Grid(100, -1)), "100+99")

    def test_great_word(self):
        self.assertEqual(str(Grid(10 ** 1999, 1)), "1" + "0" * 1999 + "+1")

    def test_read(self):
        for step, offset in [*GRIDS, (30, 14), (BIG, BIG - 1), (10 ** 39, 1)]:
            grid = Grid.read(str(Grid(step, offset)))
            self.assertIs(type(grid), Grid)
            self.assertEqual((grid.step, grid.offset), (step, offset))

    def test_read_wrong_words(self):
        for word in ["", "0", "-8", "+", "+3", "8+", "8+0", "8+8", "8+9", "8+-3", "8-3", "8++3",
                     "8+3+1", "08", "8+03", " 8", "8 ", "8 +3", "8+ 3", "8+3 ", "8\n", "a", "8+a",
                     "1+1", "0+0", "+8", "8_0", "-8+3", "-8+-9", "0+-1", "8+-0", "8+00"]:
            self.refuses(BadText(word), Grid.read, word)

    def test_read_too_many_digits(self):
        for word in ["1" * 41, "1" * 41 + "+1", "1" * 41 + "+" + "1" * 41, "8+" + "1" * 41]:
            self.refuses(BadText(word), Grid.read, word)
        self.assertEqual(Grid.read("9" * 40 + "+" + "8" * 40).offset, int("8" * 40))


if __name__ == "__main__":
    unittest.main()
