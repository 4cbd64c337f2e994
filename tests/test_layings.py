"""Points 42 and 43: layings of counts in bands."""

import itertools
import random
import unittest

from barbreaks.bands import Band
from barbreaks.chains import most
from barbreaks.errors import BadNumber, NoRoom, TooMany
from barbreaks.layings import fits, jam, lay
from tests.helpers import Case
from tests.plain_bands import all_ends, all_layings, counts_of, is_laying, some_ends

BIG = 10 ** 40 - 1


def plain_jam(ends, counts):
    """The least j whose greatest counts are too many, and by how much, or None."""
    ranked = sorted(counts, reverse=True)
    for many in range(1, len(counts) + 1):
        over = sum(ranked[:many]) - most(Band(ends), many)
        if over > 0:
            return many, over
    return None


class LayingCase(Case):
    def compare(self, ends, counts, right):
        """All three agree with what is right: whether there is a laying."""
        band = Band(ends)
        self.assertIs(fits(band, counts), right, (ends, counts))
        found = jam(band, counts)
        if right:
            self.assertIsNone(found)
            laying = lay(band, counts)
            self.assertIs(type(laying), list)
            self.assertTrue(is_laying(ends, counts, laying), (ends, counts, laying))
        else:
            self.assertIs(type(found), tuple)
            self.assertEqual(found, plain_jam(ends, counts))
            self.refuses(NoRoom(found[0], found[1]), lay, band, counts)


class TestSmallBands(LayingCase):
    def test_against_all_layings(self):
        for count in range(6):
            for ends in all_ends(count):
                for many in range(4 if count < 5 else 3):
                    laid = {counts_of(laying, many) for laying in all_layings(ends, many)}
                    for counts in itertools.product(range(count + 2), repeat=many):
                        self.compare(ends, list(counts), counts in laid)

    def test_five_things_for_three(self):
        for ends in all_ends(5):
            laid = {counts_of(laying, 3) for laying in all_layings(ends, 3)}
            for counts in [(2, 2, 1), (1, 2, 2), (2, 1, 1), (3, 1, 1), (1, 1, 3), (1, 1, 1), (0, 3, 2),
                           (2, 2, 2), (5, 0, 0), (0, 0, 4)]:
                self.compare(ends, counts, counts in laid)


class TestLongBands(LayingCase):
    def test_counts_that_just_fit_and_one_more(self):
        for number in range(40):
            rng = random.Random(f"counts {number}")
            ends = some_ends(f"laying {number}", rng.randint(20, 60), rng.randint(0, 9))
            many = rng.randint(1, 12)
            counts = self.greatest_counts(ends, many)
            self.compare(ends, rng.sample(counts, many), True)
            for _ in range(6):
                self.level(rng, ends, counts)
                self.compare(ends, rng.sample(counts, many), True)
            more = list(counts)
            more[rng.randrange(many)] += 1
            self.compare(ends, more, plain_jam(ends, more) is None)

    def greatest_counts(self, ends, many):
        """Counts of which the greatest ones are all that chains can have."""
        sums = [most(Band(ends), count) for count in range(many + 1)]
        return [after - before for before, after in zip(sums, sums[1:])]

    def level(self, rng, ends, counts):
        """Lets one count give to another one, if that still fits."""
        giver, taker = rng.randrange(len(counts)), rng.randrange(len(counts))
        changed = list(counts)
        changed[giver] -= 1
        changed[taker] += 1
        if changed[giver] >= 0 and plain_jam(ends, changed) is None:
            counts[giver], counts[taker] = changed[giver], changed[taker]

    def test_equal_counts(self):
        for number in range(20):
            ends = some_ends(f"equal {number}", 60, number)
            for many in [2, 3, 7, 12]:
                share = most(Band(ends), many) // many
                self.compare(ends, [share] * many, True)
                self.compare(ends, [share + 1] * many, False)

    def test_all_near_and_none_near(self):
        self.compare([59] * 60, [1] * 12, True)
        self.compare([59] * 60, [1] * 11 + [2], False)
        self.compare(list(range(60)), [5] * 12, True)
        self.compare(list(range(60)), [60] + [0] * 11, True)
        self.compare(list(range(60)), [0] * 11 + [60], True)
        self.compare(list(range(60)), [6] + [5] * 11, False)


class TestEdges(LayingCase):
    def test_no_counts(self):
        for ends in [[], [0], [1, 1]]:
            self.compare(ends, [], True)
            self.compare(ends, (), True)
            self.assertEqual(lay(Band(ends), []), [None] * len(ends))

    def test_counts_of_zero(self):
        self.compare([], [0, 0], True)
        self.compare([1, 1], [0, 0], True)
        self.assertEqual(lay(Band([1, 1]), [0] * 12), [None, None])

    def test_the_numbers_of_a_jam(self):
        band = Band([1, 1, 3, 3])
        self.assertIsNone(jam(band, [2, 2]))
        self.assertEqual(jam(band, [3]), (1, 1))
        self.assertEqual(jam(band, [0, 5, 1]), (1, 3))
        self.assertEqual(jam(band, [1, 2, 2]), (3, 1))
        self.assertEqual(jam(band, [1, 1, 1, 1, 1]), (5, 1))
        self.assertEqual(jam(band, [60] * 12), (1, 58))
        self.assertEqual(jam(Band([2, 2, 2]), [1, 1, 1, 1]), (4, 1))
        self.assertEqual(jam(Band([]), [0, 1]), (1, 1))

    def test_only_layings(self):
        self.assertEqual(lay(Band([1, 1, 3, 3]), [0, 2]).count(1), 2)
        self.assertEqual(lay(Band([0, 1]), [2]), [0, 0])
        self.assertEqual(lay(Band([0, 1]), [0, 2]), [1, 1])
        self.assertEqual(lay(Band([0]), [0, 0, 1]), [2])

    def test_lists_are_new_and_counts_stay(self):
        band = Band([1, 1, 3, 3])
        counts = [1, 2]
        first = lay(band, counts)
        kept = list(first)
        first.clear()
        self.assertEqual(lay(band, counts), kept)
        self.assertEqual(counts, [1, 2])
        self.assertEqual(band.ends, (1, 1, 3, 3))

    def test_refusals_change_nothing(self):
        band = Band([1, 1, 3, 3])
        for counts, error in [([3, 1], NoRoom(1, 1)), ([2, -1], BadNumber(-1)),
                              ([2] * 13, TooMany("counts", 12))]:
            kept = list(counts)
            self.refuses(error, lay, band, counts)
            self.assertEqual(counts, kept)
            self.assertEqual(band.ends, (1, 1, 3, 3))

    def test_twelve_counts(self):
        self.compare(list(range(12)), [1] * 12, True)
        self.compare(list(range(11)), [1] * 12, False)

    def test_too_many_counts(self):
        for band in [Band([]), Band([59] * 60)]:
            for counts in [[0] * 13, [1] * 13, [-1] * 13, [61] * 40]:
                for call in [fits, jam, lay]:
                    self.refuses(TooMany("counts", 12), call, band, counts)

    def test_bad_counts(self):
        for band in [Band([]), Band(list(range(60)))]:
            for counts, bad in [([-1], -1), ([61], 61), ([60, -1, 61], -1), ([0, 61, -1], 61),
                                ([BIG], BIG), ([3, -BIG], -BIG), ([0] * 11 + [61], 61)]:
                for call in [fits, jam, lay]:
                    self.refuses(BadNumber(bad), call, band, counts)

    def test_sixty(self):
        self.compare(list(range(60)), [60], True)
        self.compare(list(range(59)), [60], False)


if __name__ == "__main__":
    unittest.main()
