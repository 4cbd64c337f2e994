"""Points 37 and 38: bands of near things."""

import random
import unittest

from barbreaks.bands import Band
from barbreaks.errors import BadEnd, BadNumber, TooMany
from tests.helpers import Case
from tests.plain_bands import all_ends, are_near, some_ends

BIG = 10 ** 40 - 1


def shape(band):
    """For each two things whether they are near."""
    return [[band.near(i, k) for k in range(len(band))] for i in range(len(band))]


class TestBand(Case):
    def test_ends(self):
        band = Band([1, 1, 3, 3])
        self.assertEqual(band.ends, (1, 1, 3, 3))
        self.assertIs(type(band.ends), tuple)
        self.assertEqual(len(band), 4)
        self.assertEqual(Band((1, 1, 3, 3)).ends, (1, 1, 3, 3))

    def test_empty_band(self):
        self.assertEqual(Band([]).ends, ())
        self.assertEqual(len(Band([])), 0)

    def test_one_thing(self):
        self.assertEqual(len(Band([0])), 1)
        self.assertIs(Band([0]).near(0, 0), True)

    def test_list_is_copied(self):
        ends = [1, 1, 2]
        band = Band(ends)
        ends[0] = 0
        ends.append(3)
        self.assertEqual(band.ends, (1, 1, 2))

    def test_list_is_not_changed(self):
        ends = [1, 1, 2]
        Band(ends)
        self.assertEqual(ends, [1, 1, 2])

    def test_all_small_bands(self):
        self.assertEqual([len(all_ends(count)) for count in range(7)], [1, 1, 2, 5, 14, 42, 132])
        for count in range(7):
            for ends in all_ends(count):
                self.assertEqual(Band(ends).ends, tuple(ends))

    def test_sixty_things(self):
        self.assertEqual(len(Band(list(range(60)))), 60)
        self.assertEqual(len(Band([59] * 60)), 60)

    def test_too_many_things(self):
        self.refuses(TooMany("things", 60), Band, list(range(61)))
        self.refuses(TooMany("things", 60), Band, [60] * 61)
        self.refuses(TooMany("things", 60), Band, [-1] * 70)

    def test_bad_ends(self):
        for ends, at in [([-1], 0), ([1], 0), ([0, 0], 1), ([0, 2], 1), ([2, 1, 2], 1),
                         ([1, 0], 1), ([3, 3, 2, 3], 2), ([0, 1, 1], 2), ([0, 1, 2, -BIG], 3),
                         ([BIG, 1], 0), ([0, 3, 1], 1), ([2, 2, 3], 2), ([1, 1, 1, 4], 2),
                         ([0, -1, 9], 1)]:
            self.refuses(BadEnd(at), Band, ends)
            self.refuses(BadEnd(at), Band, tuple(ends))

    def test_any_ends(self):
        rng = random.Random("ends")
        for _ in range(2000):
            count = rng.randint(1, 4)
            ends = [rng.randint(-1, count) for _ in range(count)]
            bad = [at for at, end in enumerate(ends)
                   if end < at or end >= count or (at > 0 and end < ends[at - 1])]
            if bad:
                self.refuses(BadEnd(bad[0]), Band, ends)
            else:
                self.assertEqual(Band(ends).ends, tuple(ends))


class TestNear(Case):
    def test_all_small_bands(self):
        for count in range(6):
            for ends in all_ends(count):
                band = Band(ends)
                for i in range(count):
                    for k in range(count):
                        self.assertIs(band.near(i, k), are_near(ends, i, k))

    def test_what_stands_between_near_things_is_near_to_both(self):
        for ends in [*all_ends(6), some_ends("between", 60, 7)]:
            near = shape(Band(ends))
            for i, line in enumerate(near):
                for k in range(i, len(line)):
                    for between in range(i, k + 1):
                        self.assertTrue(not line[k] or near[i][between] and near[between][k])

    def test_whatever_the_order(self):
        band = Band([1, 3, 3, 3])
        self.assertIs(band.near(0, 1), True)
        self.assertIs(band.near(1, 0), True)
        self.assertIs(band.near(0, 2), False)
        self.assertIs(band.near(2, 0), False)
        self.assertIs(band.near(3, 1), True)
        self.assertIs(band.near(2, 2), True)

    def test_bad_numbers(self):
        band = Band([1, 1, 2])
        for bad in [-1, 3, BIG, -BIG]:
            self.refuses(BadNumber(bad), band.near, bad, 0)
            self.refuses(BadNumber(bad), band.near, 2, bad)
            self.refuses(BadNumber(bad), band.near, bad, -2)
            self.refuses(BadNumber(bad), band.near, bad, 4)
        self.refuses(BadNumber(0), Band([]).near, 0, 0)
        self.refuses(BadNumber(-1), Band([]).near, -1, 0)


class TestSpaced(Case):
    def test_distances_around_apart(self):
        self.assertEqual(Band.spaced([0, 4], 5).ends, (1, 1))
        self.assertEqual(Band.spaced([0, 5], 5).ends, (0, 1))
        self.assertEqual(Band.spaced([0, 6], 5).ends, (0, 1))
        self.assertEqual(Band.spaced([-3, 0, 1, 2, 7], 5).ends, (2, 3, 3, 3, 4))

    def test_equal_positions(self):
        self.assertEqual(Band.spaced([7, 7, 7], 1).ends, (2, 2, 2))
        self.assertEqual(Band.spaced([7, 7, 8, 8], 1).ends, (1, 1, 3, 3))

    def test_none_and_one(self):
        self.assertEqual(Band.spaced([], 1).ends, ())
        self.assertEqual(Band.spaced([-BIG], BIG).ends, (0,))

    def test_long_numbers(self):
        self.assertEqual(Band.spaced([-BIG, 0, BIG], BIG).ends, (0, 1, 2))
        self.assertEqual(Band.spaced([1 - BIG, 0, BIG - 1], BIG).ends, (1, 2, 2))
        self.assertEqual(Band.spaced([-BIG, BIG], 2 * BIG + 1).ends, (1, 1))

    def test_against_all_pairs(self):
        rng = random.Random("spaced")
        for _ in range(60):
            positions = sorted(rng.randint(-30, 60) for _ in range(rng.randint(0, 14)))
            apart = rng.randint(1, 25)
            kept = list(positions)
            band = Band.spaced(positions, apart)
            self.assertIs(type(band), Band)
            self.assertEqual(positions, kept)
            self.assertEqual(shape(band), [[abs(one - other) < apart for one in positions]
                                           for other in positions])
            self.assertEqual(Band.spaced(tuple(positions), apart).ends, band.ends)

    def test_off_an_object(self):
        self.assertEqual(Band([]).spaced([0, 4], 5).ends, (1, 1))
        self.assertIsInstance(vars(Band)["spaced"], staticmethod)

    def test_sixty_positions(self):
        self.assertEqual(Band.spaced(list(range(60)), 1).ends, tuple(range(60)))
        self.assertEqual(Band.spaced([5] * 60, 1).ends, (59,) * 60)

    def test_checks(self):
        self.refuses(TooMany("things", 60), Band.spaced, list(range(61)), 1)
        self.refuses(TooMany("things", 60), Band.spaced, list(range(61, 0, -1)), 0)
        for apart in [0, -1, -BIG]:
            self.refuses(BadNumber(apart), Band.spaced, [0, 1], apart)
            self.refuses(BadNumber(apart), Band.spaced, [], apart)
            self.refuses(BadNumber(apart), Band.spaced, [9, 8], apart)
        self.refuses(BadNumber(8), Band.spaced, [9, 8], 1)
        self.refuses(BadNumber(-4), Band.spaced, [0, 0, 5, -4, 9, 3], 1)
        self.refuses(BadNumber(4), Band.spaced, [1, 5, 4, 0], 100)


class TestPart(Case):
    def test_all_parts_of_small_bands(self):
        for count in range(6):
            for ends in all_ends(count):
                whole = shape(Band(ends))
                for low in range(count + 1):
                    for high in range(low, count + 1):
                        part = Band(ends).part(low, high)
                        self.assertIs(type(part), Band)
                        self.assertEqual(shape(part), [line[low:high] for line in whole[low:high]])

    def test_nothing_and_all(self):
        band = Band([1, 3, 3, 3])
        self.assertEqual(band.part(0, 4).ends, (1, 3, 3, 3))
        for at in range(5):
            self.assertEqual(band.part(at, at).ends, ())
        self.assertEqual(band.part(1, 3).ends, (1, 1))
        self.assertEqual(band.ends, (1, 3, 3, 3))
        self.assertEqual(Band([]).part(0, 0).ends, ())

    def test_bad_numbers(self):
        band = Band([1, 1, 2])
        for low, high, bad in [(-1, 2, -1), (4, 4, 4), (0, 4, 4), (2, 1, 1), (1, -1, -1),
                               (-1, 9, -1), (5, 9, 5), (3, 2, 2), (BIG, 0, BIG), (0, -BIG, -BIG)]:
            self.refuses(BadNumber(bad), band.part, low, high)
        self.refuses(BadNumber(1), Band([]).part, 0, 1)
        self.refuses(BadNumber(1), Band([]).part, 1, 0)


class TestErrors(Case):
    def test_refusals_change_nothing(self):
        band = Band([1, 1, 2])
        positions = [3, 2, 9]
        self.refuses(BadNumber(3), band.near, 3, 0)
        self.refuses(BadNumber(4), band.part, 0, 4)
        self.refuses(BadNumber(2), Band.spaced, positions, 4)
        self.assertEqual(band.ends, (1, 1, 2))
        self.assertEqual(positions, [3, 2, 9])


class TestMirroredAndSum(Case):
    def test_mirrored(self):
        self.assertEqual(Band([1, 1, 3, 4, 4]).mirrored().ends, (1, 2, 2, 4, 4))
        self.assertEqual(Band([]).mirrored().ends, ())
        self.assertEqual(Band([0]).mirrored().ends, (0,))

    def test_mirrored_small_bands(self):
        for count in range(7):
            for ends in all_ends(count):
                band = Band(ends).mirrored()
                self.assertIs(type(band), Band)
                self.assertEqual(shape(band), [line[::-1] for line in shape(Band(ends))[::-1]])
                self.assertEqual(band.mirrored().ends, tuple(ends))

    def test_mirrored_long_band(self):
        ends = some_ends("mirror", 60, 9)
        band = Band(ends).mirrored()
        self.assertEqual(shape(band), [line[::-1] for line in shape(Band(ends))[::-1]])

    def test_sum(self):
        first, second = Band([1, 1]), Band([0, 2, 2])
        self.assertEqual((first + second).ends, (1, 1, 2, 4, 4))
        self.assertEqual((second + first).ends, (0, 2, 2, 4, 4))
        self.assertEqual((first.ends, second.ends), ((1, 1), (0, 2, 2)))
        self.assertIs(type(first + second), Band)
        self.assertEqual((first + Band([])).ends, (1, 1))
        self.assertEqual((Band([]) + first).ends, (1, 1))
        self.assertEqual((Band([]) + Band([])).ends, ())

    def test_sums_of_small_bands(self):
        for ends in all_ends(3):
            for others in all_ends(4):
                whole = Band(ends) + Band(others)
                self.assertEqual(whole.part(0, 3).ends, tuple(ends))
                self.assertEqual(whole.part(3, 7).ends, tuple(others))
                self.assertFalse(any(whole.near(i, k) for i in range(3) for k in range(3, 7)))

    def test_too_long_sums(self):
        self.assertEqual(len(Band([19] * 20) + Band([39] * 40)), 60)
        with self.assertRaises(TooMany) as caught:
            Band([20] * 21) + Band([39] * 40)
        self.assertEqual((caught.exception.what, caught.exception.most), ("things", 60))
        with self.assertRaises(TooMany):
            Band([59] * 60) + Band([59] * 60)


if __name__ == "__main__":
    unittest.main()
