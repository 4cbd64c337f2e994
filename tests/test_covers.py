"""Points 40 and 41: covers of bands and their bounds."""

import itertools
import unittest

from barbreaks.bands import Band
from barbreaks.chains import most
from barbreaks.covers import cover, cover_bound
from barbreaks.errors import BadNumber
from tests.helpers import Case
from tests.plain_bands import all_ends, all_layings, is_cover, some_ends

BIG = 10 ** 40 - 1


def bound_of(groups, many):
    return sum(min(many, last - first + 1) for first, last in groups)


class TestCover(Case):
    def shows(self, ends, many):
        """The cover is one, and its bound is what the chains have."""
        groups = cover(Band(ends), many)
        self.assertIs(type(groups), list)
        self.assertTrue(all(type(group) is tuple and len(group) == 2 for group in groups))
        self.assertTrue(is_cover(ends, groups), (ends, many, groups))
        self.assertEqual(bound_of(groups, many), most(Band(ends), many))
        self.assertEqual(cover_bound(Band(ends), many, groups), most(Band(ends), many))

    def test_all_small_bands(self):
        for count in range(8):
            for ends in all_ends(count):
                for many in range(count + 2):
                    self.shows(ends, many)

    def test_long_bands(self):
        for number in range(40):
            ends = some_ends(f"cover {number}", 60, number // 2)
            for many in [0, 1, 2, 3, 4, 5, 8, 12, 20, 59, 60]:
                self.shows(ends, many)
        for many in [0, 1, 30, 60]:
            self.shows([59] * 60, many)
            self.shows(list(range(60)), many)

    def test_the_only_covers(self):
        self.assertEqual(cover(Band([]), 0), [])
        self.assertEqual(cover(Band([]), 60), [])
        self.assertEqual(cover(Band([0]), 1), [(0, 0)])
        self.assertEqual(cover(Band([2, 2, 2]), 1), [(0, 2)])
        self.assertEqual(cover(Band([1, 1, 3, 3]), 1), [(0, 1), (2, 3)])
        self.assertEqual(cover(Band([2, 2, 2, 3]), 2), [(0, 2), (3, 3)])

    def test_lists_are_new(self):
        band = Band([1, 1, 3, 3])
        cover(band, 1).clear()
        self.assertEqual(cover(band, 1), [(0, 1), (2, 3)])

    def test_bad_numbers(self):
        for band in [Band([]), Band([1, 1])]:
            for many in [-1, 61, BIG, -BIG]:
                self.refuses(BadNumber(many), cover, band, many)
                self.refuses(BadNumber(many), cover_bound, band, many, [])
                self.refuses(BadNumber(many), cover_bound, band, many, [(0, 1)])


def all_covers(ends, start=0):
    """All covers of the things from the start on."""
    if start == len(ends):
        return [[]]
    return [[(start, last), *rest] for last in range(start, ends[start] + 1)
            for rest in all_covers(ends, last + 1)]


class TestFact(Case):
    def test_no_chains_have_more_than_the_bound(self):
        for ends in [ends for count in range(6) for ends in all_ends(count)]:
            for many in range(4):
                right = max(len(ends) - laying.count(None) for laying in all_layings(ends, many))
                bounds = [cover_bound(Band(ends), many, groups) for groups in all_covers(ends)]
                self.assertEqual(min(bounds), right)


class TestCoverBound(Case):
    def test_all_lists_of_groups(self):
        numbers = range(-1, 4)
        groups = [(first, last) for first in numbers for last in numbers]
        for ends in [ends for count in range(4) for ends in all_ends(count)]:
            for count in range(4):
                for chosen in itertools.product(groups, repeat=count):
                    right = bound_of(chosen, 2) if is_cover(ends, chosen) else None
                    self.assertEqual(cover_bound(Band(ends), 2, list(chosen)), right)

    def test_right_covers(self):
        band = Band([2, 2, 3, 3])
        for many, bound in [(0, 0), (1, 2), (2, 3), (3, 4), (60, 4)]:
            self.assertEqual(cover_bound(band, many, [(0, 2), (3, 3)]), bound)
        self.assertEqual(cover_bound(band, 1, [(0, 0), (1, 1), (2, 3)]), 3)
        self.assertEqual(cover_bound(band, 1, ((0, 1), (2, 3))), 2)
        self.assertEqual(cover_bound(Band([]), 3, []), 0)

    def test_wrong_covers(self):
        band = Band([2, 2, 3, 3])
        for groups in [[], [(0, 2)], [(0, 1), (3, 3)], [(0, 2), (2, 3)], [(0, 3)],
                       [(2, 3), (0, 1)], [(0, 2), (3, 4)], [(1, 2), (3, 3)], [(0, 2), (3, 3), (3, 3)],
                       [(0, 2), (3, 2), (3, 3)], [(0, 2), (3, 3), (4, 4)], [(-1, 2), (3, 3)],
                       [(0, 2), (3, BIG)], [(-BIG, 2), (3, 3)], [(0, 2), (3, -1)], [(0, 2), (0, 2), (3, 3)]]:
            self.assertIsNone(cover_bound(band, 2, groups), groups)
        self.assertIsNone(cover_bound(Band([]), 3, [(0, 0)]))
        self.assertIsNone(cover_bound(Band([]), 3, [(0, -1)]))

    def test_groups_are_not_changed(self):
        groups = [(0, 1), (2, 3)]
        cover_bound(Band([1, 1, 3, 3]), 1, groups)
        self.assertEqual(groups, [(0, 1), (2, 3)])


if __name__ == "__main__":
    unittest.main()
