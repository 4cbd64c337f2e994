"""Point 39: chains of things that are not near."""

import unittest

from barbreaks.bands import Band
from barbreaks.chains import chains, fewest, most
from barbreaks.errors import BadNumber
from tests.helpers import Case
from tests.plain_bands import all_ends, all_layings, is_chain, plain_chains, some_ends

BIG = 10 ** 40 - 1


class TestChains(Case):
    def test_each_goes_to_the_first_that_can_take_it(self):
        band = Band([1, 2, 3, 3, 4])
        self.assertEqual(chains(band, 1), [[0, 2, 4]])
        self.assertEqual(chains(band, 2), [[0, 2, 4], [1, 3]])
        self.assertEqual(chains(band, 3), [[0, 2, 4], [1, 3], []])

    def test_things_are_left_out(self):
        band = Band([2, 2, 2, 4, 4])
        self.assertEqual(chains(band, 1), [[0, 3]])
        self.assertEqual(chains(band, 2), [[0, 3], [1, 4]])
        self.assertEqual(chains(band, 3), [[0, 3], [1, 4], [2]])

    def test_edges(self):
        self.assertEqual(chains(Band([]), 0), [])
        self.assertEqual(chains(Band([]), 2), [[], []])
        self.assertEqual(chains(Band([1, 1]), 0), [])
        self.assertEqual(chains(Band([1, 1]), 60), [[0], [1]] + [[] for _ in range(58)])
        self.assertEqual(chains(Band(list(range(60))), 2), [list(range(60)), []])
        self.assertEqual(chains(Band([59] * 60), 60), [[thing] for thing in range(60)])

    def test_against_the_plain_way(self):
        bands = [ends for count in range(7) for ends in all_ends(count)]
        bands.extend(some_ends(f"chains {number}", 60, number) for number in range(12))
        for ends in bands:
            for many in [0, 1, 2, 3, 5, 12]:
                found = chains(Band(ends), many)
                self.assertEqual(found, plain_chains(ends, many))
                self.assertTrue(all(is_chain(ends, chain) for chain in found))
                self.assertEqual(most(Band(ends), many), sum(len(chain) for chain in found))

    def test_lists_are_new(self):
        band = Band([1, 1, 2])
        for chain in chains(band, 3):
            chain.append(9)
        chains(band, 3).clear()
        self.assertEqual(chains(band, 3), [[0, 2], [1], []])
        self.assertEqual(len({id(chain) for chain in chains(band, 3)}), 3)

    def test_bad_numbers(self):
        for band in [Band([]), Band([1, 1]), Band([59] * 60)]:
            for many in [-1, 61, BIG, -BIG]:
                self.refuses(BadNumber(many), chains, band, many)
                self.refuses(BadNumber(many), most, band, many)
            for many in [0, 60]:
                self.assertEqual(len(chains(band, many)), many)


class TestMost(Case):
    def test_no_chains_have_more(self):
        for count in range(6):
            for ends in all_ends(count):
                for many in range(4):
                    right = max(count - laying.count(None) for laying in all_layings(ends, many))
                    self.assertEqual(most(Band(ends), many), right)

    def test_long_bands(self):
        self.assertEqual(most(Band([59] * 60), 7), 7)
        self.assertEqual(most(Band(list(range(60))), 1), 60)
        self.assertEqual(most(Band(list(range(60))), 0), 0)
        self.assertEqual(most(Band([min(thing + 3, 59) for thing in range(60)]), 3), 45)


class TestFewest(Case):
    def test_all_small_bands(self):
        for count in range(6):
            for ends in all_ends(count):
                right = next(many for many in range(count + 1)
                             if any(None not in laying for laying in all_layings(ends, many)))
                self.assertEqual(fewest(Band(ends)), right)

    def test_edges(self):
        self.assertEqual(fewest(Band([])), 0)
        self.assertEqual(fewest(Band([0])), 1)
        self.assertEqual(fewest(Band(list(range(60)))), 1)
        self.assertEqual(fewest(Band([59] * 60)), 60)

    def test_long_bands(self):
        for number in range(20):
            ends = some_ends(f"fewest {number}", 60, number)
            many = fewest(Band(ends))
            self.assertEqual(most(Band(ends), many), 60)
            self.assertLess(most(Band(ends), many - 1), 60)


if __name__ == "__main__":
    unittest.main()
