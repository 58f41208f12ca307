"""Regions, and the runs of maximal regions, against a plain count of all regions."""

import unittest

from exactroom.errors import InvalidAddress, InvalidLevel, InvalidNumber
from exactroom.regions import count_regions, is_region, maximal_runs, region_start
from exactroom.sizes import Sizes
from tests.checks import NO_ADDRESSES, NO_CELLS, Checks, no_levels

LISTS = [[1], [1, 2], [1, 3], [1, 7], [1, 40], [1, 2, 4, 8], [1, 2, 6, 12], [1, 3, 6, 24], [1, 5, 10, 20]]
FAR = [10 ** 12, 10 ** 12 - 1, 10 ** 12 + 1, 10 ** 30, 10 ** 39 - 1]


def starts_in(size, low, high):
    """Return where regions of this size start that lie in the range, found one address at a time."""
    return [at for at in range(low, high) if at % size == 0 and at + size <= high]


def plain_runs(values, low, high):
    """Return the runs of maximal regions, found by looking at every region of the range."""
    regions = [(at, level) for level, size in enumerate(values) for at in starts_in(size, low, high)]
    maximal = []
    for at, level in sorted(regions):
        end = at + values[level]
        larger = [other for other in regions
                  if other[1] > level and other[0] <= at and end <= other[0] + values[other[1]]]
        if not larger:
            maximal.append((level, at))
    runs = []
    for level, at in maximal:
        if runs and runs[-1][0] == level and runs[-1][1] + runs[-1][2] * values[level] == at:
            runs[-1] = (level, runs[-1][1], runs[-1][2] + 1)
        else:
            runs.append((level, at, 1))
    return runs


class RegionsTest(Checks):

    def setUp(self):
        self.sizes = Sizes([1, 2, 4, 8])

    def tearDown(self):
        self.assertEqual(self.sizes, Sizes([1, 2, 4, 8]))

    def test_examples(self):
        sizes = self.sizes
        found = [is_region(sizes, 15, 3, 0), is_region(sizes, 15, 3, 8), is_region(sizes, 15, 1, 3),
                 is_region(sizes, 15, 4, 0)]
        self.same(found, [True, False, False, False])
        self.same([region_start(sizes, 2, 11), region_start(sizes, 3, 7)], [8, 0])
        self.same([count_regions(sizes, 1, 3, 10), count_regions(sizes, 3, 1, 15)], [3, 0])
        found = [maximal_runs(sizes, 3, 15), maximal_runs(sizes, 5, 5)]
        self.same(found, [[(0, 3, 1), (2, 4, 2), (1, 12, 1), (0, 14, 1)], []])

    def test_regions_of_small_memories(self):
        for values in LISTS:
            sizes = Sizes(values)
            for length in [1, 2, 3, 7, 8, 9, 15, 16, 17, 25]:
                for level, size in enumerate(values):
                    starts = starts_in(size, 0, length)
                    for address in range(length + 10):
                        self.assertIs(is_region(sizes, length, level, address), address in starts)

    def test_regions_of_the_longest_memory(self):
        sizes = Sizes([1, 3, 9])
        longest = 10 ** 12
        self.assertIs(is_region(sizes, longest, 0, longest - 1), True)
        self.assertIs(is_region(sizes, longest, 0, longest), False)
        self.assertIs(is_region(sizes, longest, 2, longest - 10), True)
        self.assertIs(is_region(sizes, longest, 2, longest - 1), False)
        for address in FAR[3:]:
            self.assertIs(is_region(sizes, longest, 0, address), False)

    def test_other_values_have_no_region(self):
        sizes = self.sizes
        for value in no_levels(sizes):
            self.assertIs(is_region(sizes, 16, value, 0), False)
            for address in NO_ADDRESSES:
                self.assertIs(is_region(sizes, 16, value, address), False)
        for address in NO_ADDRESSES + [-8, -16]:
            for level in range(4):
                self.assertIs(is_region(sizes, 16, level, address), False)

    def test_wrong_lengths_come_first(self):
        sizes = self.sizes
        for length in NO_CELLS:
            self.refused_value(InvalidNumber, length, is_region, sizes, length, 0, 0)
            self.refused_value(InvalidNumber, length, is_region, sizes=sizes, length=length, level=0, address=0)
            for wrong in [True, None, -1, "a", [0], (0,), {}]:
                self.refused_value(InvalidNumber, length, is_region, sizes, length, wrong, wrong)

    def test_starts_of_regions(self):
        for values in LISTS:
            sizes = Sizes(values)
            for level, size in enumerate(values):
                for address in range(60):
                    wanted = max(at for at in range(address + 1) if at % size == 0)
                    self.same(region_start(sizes, level, address), wanted)

    def test_starts_of_far_regions(self):
        sizes = Sizes([1, 7, 7 * 10 ** 8])
        for address in FAR:
            for level, size in enumerate(sizes.all_sizes()):
                self.same(region_start(sizes, level, address), address // size * size)

    def test_arguments_by_name(self):
        sizes = self.sizes
        self.same(is_region(address=8, level=3, length=16, sizes=sizes), True)
        self.same(region_start(address=11, level=2, sizes=sizes), 8)
        self.same(count_regions(high=10, low=3, level=1, sizes=sizes), 3)
        self.same(maximal_runs(high=4, low=2, sizes=sizes), [(1, 2, 1)])

    def test_wrong_levels_come_first(self):
        sizes = self.sizes
        for level in no_levels(sizes):
            self.refused_value(InvalidLevel, level, region_start, sizes, level, 0)
            self.refused_value(InvalidLevel, level, count_regions, sizes, level, 0, 8)
            self.refused_value(InvalidLevel, level, count_regions, sizes, level, 8, 0)
            for wrong in [True, None, -1, "a", [0], (0,), {}]:
                self.refused_value(InvalidLevel, level, region_start, sizes, level, wrong)
                self.refused_value(InvalidLevel, level, count_regions, sizes, level, wrong, wrong)

    def test_wrong_addresses(self):
        sizes = self.sizes
        for value in NO_ADDRESSES:
            for level in range(4):
                self.refused_value(InvalidAddress, value, region_start, sizes, level, value)
            self.refused_value(InvalidAddress, value, region_start, sizes=sizes, level=0, address=value)

    def test_wrong_ranges(self):
        for call in [lambda low, high: count_regions(self.sizes, 2, low, high),
                     lambda low, high: maximal_runs(self.sizes, low, high)]:
            for low in NO_ADDRESSES:
                for high in [0, 8, -3, True, None, "a", [0], (0,), {}]:
                    self.refused_value(InvalidAddress, low, call, low, high)
            for high in NO_ADDRESSES:
                self.refused_value(InvalidAddress, high, call, 0, high)
                self.refused_value(InvalidAddress, high, call, 5, high)
            for low, high in [(1, 0), (5, 4), (8, 0), (10 ** 30, 10 ** 30 - 1), (10 ** 12, 5)]:
                self.refused_value(InvalidAddress, high, call, low, high)

    def test_one_is_not_true_as_the_end_of_a_range(self):
        for value in [True, False]:
            self.refused_value(InvalidAddress, value, count_regions, self.sizes, 0, 0, value)
            self.refused_value(InvalidAddress, value, maximal_runs, self.sizes, value, 1)

    def test_small_ranges(self):
        for values in LISTS:
            sizes = Sizes(values)
            for low in range(28):
                for high in range(low, 54):
                    for level, size in enumerate(values):
                        self.same(count_regions(sizes, level, low, high), len(starts_in(size, low, high)))
                    self.same(maximal_runs(sizes, low, high), plain_runs(values, low, high))

    def test_empty_ranges(self):
        for values in LISTS:
            sizes = Sizes(values)
            for address in list(range(50)) + FAR:
                self.same([count_regions(sizes, level, address, address) for level in range(len(sizes))],
                          [0] * len(sizes))
                self.same(maximal_runs(sizes, address, address), [])

    def test_far_ranges(self):
        sizes = Sizes([1, 2, 6, 12])
        far = 12 * 10 ** 30
        for low in range(13):
            for high in range(low, 40):
                wanted = [(level, far + at, count) for level, at, count in maximal_runs(sizes, low, high)]
                self.same(maximal_runs(sizes, far + low, far + high), wanted)
                for level in range(4):
                    self.same(count_regions(sizes, level, far + low, far + high),
                              count_regions(sizes, level, low, high))

    def test_long_ranges(self):
        sizes = self.sizes
        self.same(maximal_runs(sizes, 0, 10 ** 30), [(3, 0, 10 ** 30 // 8)])
        self.same(maximal_runs(Sizes([1]), 5, 10 ** 30), [(0, 5, 10 ** 30 - 5)])
        self.same(maximal_runs(sizes, 1, 10 ** 30 + 7), [
            (0, 1, 1), (1, 2, 1), (2, 4, 1), (3, 8, 10 ** 30 // 8 - 1),
            (2, 10 ** 30, 1), (1, 10 ** 30 + 4, 1), (0, 10 ** 30 + 6, 1)])
        self.same(count_regions(sizes, 3, 1, 10 ** 30), 10 ** 30 // 8 - 1)
        self.same(count_regions(sizes, 0, 1, 10 ** 30), 10 ** 30 - 1)
        wide = Sizes([1, 10 ** 9])
        self.same(maximal_runs(wide, 1, 10 ** 9), [(0, 1, 10 ** 9 - 1)])
        self.same(maximal_runs(wide, 1, 2 * 10 ** 9), [(0, 1, 10 ** 9 - 1), (1, 10 ** 9, 1)])

    def test_returned_lists_are_new(self):
        found = maximal_runs(self.sizes, 3, 15)
        wanted = list(found)
        found.clear()
        self.same(maximal_runs(self.sizes, 3, 15), wanted)
        maximal_runs(self.sizes, 5, 5).append(1)
        self.same(maximal_runs(self.sizes, 5, 5), [])

    def test_wrong_values_are_not_changed(self):
        for value in [[1], [True], {1: 2}, {"a": 1}, [[1], (2,)]]:
            before = repr(value)
            self.same(is_region(self.sizes, 8, value, value), False)
            self.assertRaises(InvalidNumber, is_region, self.sizes, value, 0, 0)
            self.assertRaises(InvalidLevel, region_start, self.sizes, value, value)
            self.assertRaises(InvalidAddress, count_regions, self.sizes, 0, 0, value)
            self.assertRaises(InvalidAddress, maximal_runs, self.sizes, value, value)
            self.assertEqual(repr(value), before)


if __name__ == "__main__":
    unittest.main()
