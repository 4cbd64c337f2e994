"""Point 44: all layings of counts."""

import itertools
import types
import unittest

from barbreaks.bands import Band
from barbreaks.errors import BadNumber, TooMany
from barbreaks.layings import fits
from barbreaks.listing import every_laying
from tests.helpers import Case
from tests.plain_bands import all_ends, all_layings, counts_of, is_laying, some_ends


def listed(ends, counts):
    return list(every_laying(Band(ends), counts))


class TestEveryLaying(Case):
    def test_against_all_layings(self):
        for count in range(5):
            for ends in all_ends(count):
                for many in range(4):
                    layings = all_layings(ends, many)
                    for counts in itertools.product(range(count + 2), repeat=many):
                        right = [laying for laying in layings if counts_of(laying, many) == counts]
                        self.assertEqual(listed(ends, list(counts)), right)

    def test_seven_things(self):
        for ends in [some_ends(f"listing {number}", 7, number % 4) for number in range(8)]:
            layings = all_layings(ends, 2)
            for counts in [(0, 0), (1, 1), (2, 1), (1, 3), (4, 3), (3, 3), (7, 0)]:
                right = [laying for laying in layings if counts_of(laying, 2) == counts]
                self.assertEqual(listed(ends, counts), right)
                self.assertIs(fits(Band(ends), counts), right != [])

    def test_ascending_with_none_before_zero(self):
        self.assertEqual(listed([0, 1], [1]), [[None, 0], [0, None]])
        self.assertEqual(listed([1, 1, 2], [1, 1]), [
            [None, 0, 1], [None, 1, 0], [0, None, 1], [0, 1, None], [1, None, 0], [1, 0, None]])
        self.assertEqual(listed([0, 2, 2], [2]), [[0, None, 0], [0, 0, None]])

    def test_many_layings(self):
        found = listed(list(range(7)), [1] * 7)
        self.assertEqual(found, [list(line) for line in itertools.permutations(range(7))])
        found = listed([6] * 7, [1] * 6 + [0] * 6)
        self.assertEqual(len(found), 5040)
        self.assertTrue(all(is_laying([6] * 7, [1] * 6 + [0] * 6, laying) for laying in found))

    def test_edges(self):
        self.assertEqual(listed([], []), [[]])
        self.assertEqual(listed([], [0]), [[]])
        self.assertEqual(listed([], [1]), [])
        self.assertEqual(listed([0], []), [[None]])
        self.assertEqual(listed([1, 1], [0, 0]), [[None, None]])
        self.assertEqual(listed([1, 1], [2]), [])
        self.assertEqual(listed([0, 1], [3]), [])
        self.assertEqual(listed(list(range(7)), [60] * 12), [])
        self.assertEqual(listed(list(range(7)), [0] * 11 + [7]), [[11] * 7])

    def test_generator_of_new_lists(self):
        band = Band([0, 1])
        counts = [1]
        self.assertIsInstance(every_laying(band, counts), types.GeneratorType)
        found = []
        for laying in every_laying(band, counts):
            found.append(list(laying))
            laying.clear()
        self.assertEqual(found, [[None, 0], [0, None]])
        self.assertEqual(counts, [1])
        self.assertEqual(list(every_laying(band, (1,))), found)

    def test_checks(self):
        seven, eight, long = Band(list(range(7))), Band(list(range(8))), Band([59] * 60)
        self.refuses(TooMany("things", 7), self.iterate, eight, [1])
        self.refuses(TooMany("things", 7), self.iterate, long, [])
        self.refuses(TooMany("things", 7), self.iterate, eight, [60] * 12)
        for band in [Band([]), seven, eight, long]:
            self.refuses(TooMany("counts", 12), self.iterate, band, [0] * 13)
            self.refuses(TooMany("counts", 12), self.iterate, band, [-1] * 13)
            self.refuses(BadNumber(-1), self.iterate, band, [0, -1, 61])
            self.refuses(BadNumber(61), self.iterate, band, [60, 61, -1])

    def iterate(self, band, counts):
        return list(every_laying(band, counts))


if __name__ == "__main__":
    unittest.main()
