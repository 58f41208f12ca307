"""The pieces of objects: counts, level_of, whole and pieces."""

import unittest

from exactroom.errors import InvalidLevel, InvalidNumber, TooManyPieces
from exactroom.sizes import Sizes
from tests.checks import NO_CELLS, Checks, no_levels

TRILLION = 10 ** 12
LISTS = [
    [1], [1, 2], [1, 3], [1, 2, 4, 8], [1, 10, 100], [1, 2, 6, 12, 60], [1, 5, 10, 1000], [1, 10 ** 9],
    [1, 2, 4, 8, 16, 32, 64, 128], [1, 10, 100, 1000, 10 ** 4, 10 ** 5, 10 ** 6, 10 ** 9],
]


def taken(values, cells):
    """Return the levels of the pieces, found by taking away the largest one that fits, again and again."""
    levels = []
    while cells > 0:
        level = max(at for at in range(len(values)) if values[at] <= cells)
        levels.append(level)
        cells -= values[level]
    return levels


def fewest(values, most):
    """Return the least number of pieces for each number of cells from 0 to most."""
    found = [0]
    for cells in range(1, most + 1):
        found.append(1 + min(found[cells - value] for value in values if value <= cells))
    return found


def around(values):
    """Return numbers of cells around each size and around multiples of it."""
    found = []
    for value in values:
        for times in [1, 2, 3, 7, 63, 64, 65, 999, TRILLION // value]:
            found += [value * times + step for step in [-1, 0, 1]]
    return [cells for cells in found + [TRILLION - 1, TRILLION] if 1 <= cells <= TRILLION]


class PiecesTest(Checks):

    def setUp(self):
        self.sizes = Sizes([1, 2, 4, 8])

    def test_examples(self):
        sizes = self.sizes
        found = [sizes.level_of(11), sizes.whole(11, 0), sizes.whole(11, 1), sizes.whole(11, 2)]
        self.same(found, [3, 11, 10, 8])
        self.same([sizes.counts(11), sizes.counts(27)], [[1, 1, 0, 1], [1, 1, 0, 3]])
        self.refused_value(InvalidNumber, 0, sizes.counts, 0)
        self.same([sizes.pieces(11), sizes.pieces(18)], [[3, 1, 0], [3, 3, 1]])
        self.refused(TooManyPieces, {"limit": 64}, sizes.pieces, 1000)

    def check_all(self, values, cells, levels):
        sizes = Sizes(values)
        counts = [levels.count(level) for level in range(len(values))]
        self.same(sizes.counts(cells), counts)
        self.same(sizes.level_of(cells), levels[0])
        for level in range(len(values)):
            wanted = sum(values[piece] for piece in levels if piece >= level)
            self.same(sizes.whole(cells, level), wanted)
        if len(levels) <= 64:
            self.same(sizes.pieces(cells), levels)
        else:
            self.refused(TooManyPieces, {"limit": 64}, sizes.pieces, cells)

    def test_small_numbers(self):
        for values in LISTS:
            for cells in range(1, 200):
                self.check_all(values, cells, taken(values, cells))

    def test_there_are_as_few_pieces_as_possible(self):
        for values in LISTS:
            sizes = Sizes(values)
            for cells, least in enumerate(fewest(values, 300)):
                if cells > 0:
                    self.same(sum(sizes.counts(cells)), least)

    def test_numbers_around_sizes_and_their_multiples(self):
        for values in LISTS:
            sizes = Sizes(values)
            for cells in around(values):
                counts = sizes.counts(cells)
                self.same(sum(count * value for count, value in zip(counts, values)), cells)
                self.same(sizes.level_of(cells), max(at for at in range(len(values)) if counts[at] > 0))
                for level, value in enumerate(values):
                    self.assertTrue(level == sizes.top or counts[level] < values[level + 1] // value)
                    self.same(sizes.whole(cells, level), cells - cells % value)
                    above = sum(counts[at] * values[at] for at in range(level, len(values)))
                    self.same(sizes.whole(cells, level), above)

    def test_the_greatest_number(self):
        self.same(Sizes([1]).counts(TRILLION), [TRILLION])
        self.same(Sizes([1, 10 ** 9]).counts(TRILLION - 1), [10 ** 9 - 1, 999])
        self.same(self.sizes.counts(TRILLION), [0, 0, 0, TRILLION // 8])
        self.same(Sizes([1]).level_of(TRILLION), 0)
        self.same(Sizes([1]).whole(TRILLION, 0), TRILLION)
        self.same(Sizes([1, 3]).whole(TRILLION, 1), TRILLION - 1)
        self.refused(TooManyPieces, {"limit": 64}, Sizes([1]).pieces, TRILLION)
        self.refused(TooManyPieces, {"limit": 64}, Sizes([1, 10 ** 9]).pieces, TRILLION)

    def test_sixty_four_and_sixty_five_pieces(self):
        self.same(Sizes([1]).pieces(64), [0] * 64)
        self.refused(TooManyPieces, {"limit": 64}, Sizes([1]).pieces, 65)
        self.same(self.sizes.pieces(512), [3] * 64)
        self.same(self.sizes.pieces(8 * 61 + 7), [3] * 61 + [2, 1, 0])
        self.refused(TooManyPieces, {"limit": 64}, self.sizes.pieces, 8 * 62 + 7)
        self.refused(TooManyPieces, {"limit": 64}, self.sizes.pieces, 513)
        self.same(Sizes([1, 10 ** 9]).pieces(64 * 10 ** 9), [1] * 64)
        self.refused(TooManyPieces, {"limit": 64}, Sizes([1, 10 ** 9]).pieces, 64 * 10 ** 9 + 1)
        self.refused(TooManyPieces, {"limit": 64}, self.sizes.pieces, 520)

    def test_arguments_by_name(self):
        sizes = self.sizes
        found = [sizes.level_of(cells=5), sizes.counts(cells=5), sizes.pieces(cells=5)]
        self.same(found, [2, [1, 0, 1, 0], [2, 0]])
        self.same([sizes.whole(level=1, cells=5), sizes.whole(5, level=2)], [4, 4])

    def test_returned_lists_are_new(self):
        for call in [self.sizes.counts, self.sizes.pieces]:
            found = call(11)
            wanted = list(found)
            found.append(9)
            found[0] = 5
            self.same(call(11), wanted)
        self.assertEqual(self.sizes, Sizes([1, 2, 4, 8]))

    def test_no_query_changes_the_sizes(self):
        sizes = self.sizes
        for _ in range(3):
            self.same([sizes.counts(27), sizes.pieces(27), sizes.whole(27, 2)], [[1, 1, 0, 3], [3, 3, 3, 1, 0], 24])
            self.assertRaises(TooManyPieces, sizes.pieces, 1000)
            self.same(sizes.all_sizes(), [1, 2, 4, 8])

    def test_wrong_numbers(self):
        for sizes in [self.sizes, Sizes([1])]:
            for value in NO_CELLS:
                for call in [sizes.level_of, sizes.counts, sizes.pieces]:
                    self.refused_value(InvalidNumber, value, call, value)
                    self.refused_value(InvalidNumber, value, call, cells=value)
                self.refused_value(InvalidNumber, value, sizes.whole, value, 0)

    def test_wrong_levels(self):
        for sizes in [self.sizes, Sizes([1])]:
            for value in no_levels(sizes):
                self.refused_value(InvalidLevel, value, sizes.whole, 5, value)
                self.refused_value(InvalidLevel, value, sizes.whole, level=value, cells=5)

    def test_a_wrong_number_comes_before_a_wrong_level(self):
        for number in NO_CELLS:
            for level in no_levels(self.sizes):
                self.refused_value(InvalidNumber, number, self.sizes.whole, number, level)
                self.refused_value(InvalidNumber, number, self.sizes.whole, level=level, cells=number)

    def test_wrong_values_are_not_changed(self):
        for value in [[1], [True], {1: 2}, {"a": 1}, [[1], (2,)]]:
            before = repr(value)
            for call in [self.sizes.level_of, self.sizes.counts, self.sizes.pieces]:
                self.assertRaises(InvalidNumber, call, value)
            self.assertRaises(InvalidLevel, self.sizes.whole, 1, value)
            self.assertEqual(repr(value), before)


if __name__ == "__main__":
    unittest.main()
