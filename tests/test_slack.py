"""Free runs and regions, clear and unpinned cells, slack, what fits, and the largest number that fits."""

import itertools
import random
import unittest

from exactroom.errors import InvalidLevel, InvalidNumber, InvalidNumbers
from exactroom.layouts import Layout
from exactroom.sizes import Sizes
from tests import plain
from tests.checks import NO_CELLS, NO_LISTS, Checks, no_levels
from tests.far import FAR, MILLION, TRILLION, far_blocks, slacks, untouched

NO_NUMBERS = [value for value in NO_LISTS if not isinstance(value, tuple)]
KEPT = [[], (), [1], (2,), [3, 1], (1, 1, 1), [4, 2], [6], (7, 5)]
WRONG = [True, False, None, -1, 0, "a", [0], (0,), {}, {"a": 1}]


class ExampleTest(Checks):

    def setUp(self):
        self.layout = plain.build([1, 2, 4, 8], 16, [(2, 1, False), (5, 0, True)])

    def test_free(self):
        layout = self.layout
        found = [layout.free_runs(), layout.free_regions(1), layout.free_regions(2), list(layout.free_addresses(2))]
        self.same(found, [[(1, 0, 1), (0, 4, 1), (1, 6, 1), (3, 8, 1)], 6, 2, [8, 12]])

    def test_cells(self):
        layout = self.layout
        found = [layout.clear_cells(0), layout.clear_cells(2), layout.unpinned_cells(1), layout.unpinned_cells(2)]
        self.same(found, [15, 12, 2, 0])

    def test_slack(self):
        layout = self.layout
        found = [layout.slack(0), layout.slack(1), layout.slack(3), layout.slack(1, kept=[3])]
        self.same(found, [13, 12, 8, 10])

    def test_fits(self):
        layout = self.layout
        found = [layout.short_level([8, 5]), layout.short_level([9, 5]), layout.short_level(()), layout.fits(8, 5),
                 layout.fits(9, kept=[5])]
        self.same(found, [None, 0, None, True, False])

    def test_largest(self):
        layout = self.layout
        self.same([layout.largest(), layout.largest(kept=[3]), layout.largest(kept=[14])], [13, 10, 0])


class SmallTest(Checks):

    def check_free(self, layout, values, length, blocks):
        self.same(layout.free_runs(), plain.free_runs(values, length, blocks))
        for level in range(len(values)):
            wanted = plain.free_regions(values, length, blocks, level)
            self.same(layout.free_regions(level), len(wanted))
            self.same(list(layout.free_addresses(level)), wanted)

    def check_slack(self, layout, values, length, blocks, kept_lists):
        for level in range(len(values)):
            self.same(layout.clear_cells(level), plain.clear_cells(values, length, blocks, level))
            self.same(layout.unpinned_cells(level), plain.unpinned_cells(values, blocks, level))
            own = plain.slack(values, length, blocks, level)
            self.assertTrue(own >= 0 and own % values[level] == 0)
            self.same(layout.slack(level), own)
            for kept in kept_lists:
                self.same(layout.slack(level, kept=kept), plain.slack(values, length, blocks, level, kept))
        for kept in kept_lists:
            short = plain.short_level(values, length, blocks, kept)
            self.same(layout.short_level(kept), short)
            self.same(layout.fits(*kept), short is None)
            self.same(layout.fits(kept=kept), short is None)
            self.same(layout.fits(*kept[1:], kept=kept[:1]), short is None)

    def check_largest(self, layout, values, length, blocks, kept):
        fitting = [cells for cells in range(1, length + 2)
                   if plain.short_level(values, length, blocks, [cells, *kept]) is None]
        self.same(layout.largest(kept=kept), max(fitting, default=0))
        # What fits goes without gaps from 1 to the largest one.
        self.same(fitting, list(range(1, len(fitting) + 1)))

    def test_tiny_layouts(self):
        for values, length, blocks in plain.tiny_layouts(step=3):
            layout = plain.build(values, length, blocks)
            before = repr(layout)
            self.check_free(layout, values, length, blocks)
            self.check_slack(layout, values, length, blocks, KEPT[:5])
            self.check_largest(layout, values, length, blocks, [])
            self.check_largest(layout, values, length, blocks, [2])
            self.same(layout.largest(), layout.largest(kept=[]))
            self.assertEqual(repr(layout), before)

    def test_medium_layouts(self):
        for values, length, blocks in plain.medium_layouts(11, 12):
            layout = plain.build(values, length, blocks)
            self.check_free(layout, values, length, blocks)
            self.check_slack(layout, values, length, blocks, KEPT)
            for kept in KEPT:
                self.check_largest(layout, values, length, blocks, kept)

    def test_after_each_of_many_changes(self):
        source = random.Random(17)
        for values, length in plain.MEDIUM:
            layout = Layout(Sizes(values), length)
            blocks = []
            for _ in range(40):
                if blocks and source.random() < 0.4:
                    address, level, is_pinned = blocks.pop(source.randrange(len(blocks)))
                    if source.random() < 0.5:
                        layout.take_out(address)
                    else:
                        layout.set_pinned(address, not is_pinned)
                        blocks.append((address, level, not is_pinned))
                else:
                    for block in plain.random_blocks(source, values, length, 1, 3):
                        if not plain.overlapping(values, block, blocks):
                            layout.put(block[1], block[0], pinned=block[2])
                            blocks.append(block)
                self.check_free(layout, values, length, blocks)
                self.check_slack(layout, values, length, blocks, KEPT[:4])
                self.check_largest(layout, values, length, blocks, KEPT[4])

    def test_what_fits_is_what_has_an_arrangement(self):
        lists = [[1], [2], [3], [4], [6], [7], [1, 1], [2, 1], [2, 2], [3, 2], [4, 1], [2, 3, 1], [1, 1, 1, 1]]
        for values, length, blocks in plain.tiny_layouts(step=17):
            layout = plain.build(values, length, blocks)
            self.same(layout.fits(), True)
            for numbers in lists:
                wanted = plain.has_arrangement(values, length, blocks, numbers)
                self.same(layout.fits(*numbers), wanted)
                # The sequence does not matter.
                self.same(layout.fits(*numbers[::-1]), wanted)
                self.same(layout.short_level(tuple(numbers)) is None, wanted)
                self.same(layout.fits(numbers[0], kept=tuple(numbers[1:])), wanted)

    def test_slack_does_not_depend_on_where_unpinned_blocks_are(self):
        one = plain.build([1, 2, 4, 8], 24, [(0, 1, False), (8, 2, False), (13, 0, True), (20, 0, False)])
        other = plain.build([1, 2, 4, 8], 24, [(22, 1, False), (0, 2, False), (13, 0, True), (9, 0, False)])
        for level in range(4):
            for kept in KEPT:
                self.same(one.slack(level, kept=kept), other.slack(level, kept=kept))
                self.same(one.largest(kept=kept), other.largest(kept=kept))

    def test_kept_numbers_that_do_not_fit(self):
        layout = plain.build([1, 2, 4], 8, [(0, 0, False), (4, 2, True)])
        self.same([layout.slack(level, kept=[8, 3]) for level in range(3)], [-8, -6, -4])
        self.same([layout.slack(level, kept=[2, 2]) for level in range(3)], [-1, 0, 4])
        self.same([layout.short_level([8, 3]), layout.short_level([2, 2]), layout.largest(kept=[8, 3])], [0, 0, 0])
        self.same([layout.fits(kept=[8, 3]), layout.fits(kept=[3]), layout.fits(3), layout.fits()],
                  [False, True, True, True])

    def test_the_lowest_short_level(self):
        layout = plain.build([1, 2, 4, 8], 16, [(1, 0, True), (9, 0, True)])
        self.same([layout.short_level([cells]) for cells in [7, 8, 12, 14, 15]], [None, 3, 2, 1, 0])
        self.same([layout.short_level([4, 4]), layout.short_level([4, 4, 4]), layout.short_level([4, 4, 6])],
                  [None, 2, 1])
        self.same(layout.largest(), 7)

    def test_the_largest_number_may_have_many_pieces(self):
        self.same(Layout(Sizes([1]), 1000).largest(), 1000)
        self.same(Layout(Sizes([1, 2]), 10 ** 6 + 1).largest(kept=[1]), 10 ** 6)

    def test_full_layouts(self):
        for pinned in [True, False]:
            layout = plain.build([1, 2, 4], 7, [(0, 2, pinned), (4, 1, pinned), (6, 0, pinned)])
            self.same([layout.free_runs(), layout.free, layout.largest()], [[], 0, 0])
            self.same([list(layout.free_addresses(level)) for level in range(3)], [[], [], []])
            self.same([layout.free_regions(level) for level in range(3)], [0, 0, 0])
            self.same([layout.slack(level) for level in range(3)], [0, 0, 0])
            self.same([layout.fits(), layout.fits(1), layout.short_level([1])], [True, False, 0])


class GeneratorTest(Checks):

    def test_two_by_turns(self):
        layout = plain.build([1, 2, 4], 16, [(2, 1, False), (5, 0, True)])
        one = layout.free_addresses(1)
        other = layout.free_addresses(1)
        third = layout.free_addresses(0)
        self.assertEqual([next(one), next(other), next(one), next(third), next(third), next(other)], [0, 0, 6, 0, 1, 6])
        self.assertEqual([list(other), next(one), list(third)], [[8, 10, 12, 14], 8, [4, 6] + list(range(7, 16))])
        self.assertEqual([list(one), list(one)], [[10, 12, 14], []])

    def test_of_two_layouts_by_turns(self):
        one = plain.build([1, 2], 6, [(0, 1, False)])
        other = plain.build([1, 2], 6, [(2, 1, False)])
        pairs = list(zip(one.free_addresses(1), other.free_addresses(1)))
        self.assertEqual(pairs, [(2, 0), (4, 4)])

    def test_it_is_a_generator(self):
        found = Layout(Sizes([1]), 3).free_addresses(level=0)
        self.assertIs(iter(found), found)
        self.assertEqual(next(found), 0)
        self.assertFalse(isinstance(found, (list, tuple)))

    def test_long_layouts_yield_at_once(self):
        layout = Layout(Sizes([1, MILLION]), TRILLION)
        layout.put(0, 0)
        layout.put(1, 2 * MILLION)
        self.assertEqual(list(itertools.islice(layout.free_addresses(0), 3)), [1, 2, 3])
        self.assertEqual(list(itertools.islice(layout.free_addresses(1), 3)), [MILLION, 3 * MILLION, 4 * MILLION])

    def test_wrong_levels(self):
        for layout in [Layout(Sizes([1, 2]), 8), plain.build([1, 2], 2, [(0, 1, True)])]:
            for value in no_levels(layout.sizes):
                self.refused_value(InvalidLevel, value, lambda: next(layout.free_addresses(value)))
                self.refused_value(InvalidLevel, value, lambda: list(layout.free_addresses(level=value)))


class FarTest(Checks):

    def test_far_layouts(self):
        source = random.Random(23)
        for values, length in FAR:
            blocks = far_blocks(source, values, length)
            layout = plain.build(values, length, blocks)
            pinned = [block for block in blocks if block[2]]
            self.same(layout.free, length - sum(values[block[1]] for block in blocks))
            for level, size in enumerate(values):
                self.same(layout.free_regions(level), untouched(values, length, blocks, level))
                self.same(layout.clear_cells(level), untouched(values, length, pinned, level) * size)
                self.same(layout.unpinned_cells(level), plain.unpinned_cells(values, blocks, level))
                self.same(layout.slack(level), slacks(values, length, blocks)[level])
            self.check_fitting(layout, values, slacks(values, length, blocks))
            self.check_runs(layout, values, length, blocks)

    def check_fitting(self, layout, values, own):
        most = max(0, min(slack + size - 1 for slack, size in zip(own, values)))
        self.same(layout.largest(), most)
        self.same([layout.fits(cells) for cells in [most, most + 1] if 1 <= cells <= TRILLION],
                  [cells == most for cells in [most, most + 1] if 1 <= cells <= TRILLION])
        for kept in [[most // 2 + 1, 1], [TRILLION], [MILLION] * 400]:
            left = [slack - sum(cells // size * size for cells in kept) for slack, size in zip(own, values)]
            self.same([layout.slack(level, kept=kept) for level in range(len(values))], left)
            self.same(layout.largest(kept=kept), max(0, min(slack + size - 1 for slack, size in zip(left, values))))
            short = [level for level in range(len(values)) if left[level] < 0]
            self.same(layout.short_level(kept), min(short, default=None))

    def check_runs(self, layout, values, length, blocks):
        """Check that the free runs cover exactly the free cells, and that no run can be longer or higher."""
        runs = layout.free_runs()
        spans = [(address, address + count * values[level]) for level, address, count in runs]
        spans += [(address, address + values[level]) for address, level, _ in blocks]
        edges = [0]
        for low, high in sorted(spans):
            self.assertEqual(low, edges[-1])
            edges.append(high)
        self.assertEqual(edges[-1], length)
        for level, address, count in runs:
            self.assertTrue(count > 0 and address % values[level] == 0)
        for level, size in enumerate(values):
            inside = sum(count * (values[run_level] // size) for run_level, _, count in runs if run_level >= level)
            self.same(inside, untouched(values, length, blocks, level))
        for one, other in zip(runs, runs[1:]):
            self.assertFalse(one[0] == other[0] and one[1] + one[2] * values[one[0]] == other[1])

    def test_scaled_layouts(self):
        for values, length, blocks in plain.medium_layouts(31, 6):
            scale = MILLION
            far = [1] + [size * scale for size in values]
            layout = plain.build(far, length * scale, [(address * scale, level + 1, is_pinned)
                                                       for address, level, is_pinned in blocks])
            wanted = plain.free_runs(values, length, blocks)
            self.same(layout.free_runs(), [(level + 1, address * scale, count) for level, address, count in wanted])
            for level in range(len(values)):
                addresses = [address * scale for address in plain.free_regions(values, length, blocks, level)]
                self.same(list(layout.free_addresses(level + 1)), addresses)
                self.same(layout.slack(level + 1), plain.slack(values, length, blocks, level) * scale)


class WrongValuesTest(Checks):

    def setUp(self):
        self.layouts = [plain.build([1, 2, 4], 8, [(0, 0, False), (2, 1, True)]), plain.build([1], 1, [(0, 0, True)])]
        self.before = repr(self.layouts)

    def tearDown(self):
        self.assertEqual(repr(self.layouts), self.before)

    def test_levels(self):
        for layout in self.layouts:
            for value in no_levels(layout.sizes):
                for call in [layout.free_regions, layout.clear_cells, layout.unpinned_cells, layout.slack]:
                    self.refused_value(InvalidLevel, value, call, value)
                    self.refused_value(InvalidLevel, value, call, level=value)
                for wrong in WRONG + [[], [1], [1, 0]]:
                    self.refused_value(InvalidLevel, value, layout.slack, value, kept=wrong)

    def test_values_that_are_neither_lists_nor_tuples(self):
        for layout in self.layouts:
            for value in NO_NUMBERS:
                self.refused(InvalidNumbers, {"position": 0}, layout.slack, 0, kept=value)
                self.refused(InvalidNumbers, {"position": 0}, layout.short_level, value)
                self.refused(InvalidNumbers, {"position": 0}, layout.short_level, numbers=value)
                self.refused(InvalidNumbers, {"position": 0}, layout.fits, kept=value)
                self.refused(InvalidNumbers, {"position": 0}, layout.fits, 1, kept=value)
                self.refused(InvalidNumbers, {"position": 0}, layout.largest, kept=value)

    def test_elements_that_are_no_numbers_of_cells(self):
        for layout in self.layouts:
            for wrong in NO_CELLS:
                for before in [[], [1], [1, TRILLION, 5]]:
                    for after in [[], [1], [0], [None]]:
                        for kind in [list, tuple]:
                            value = kind(before + [wrong] + after)
                            wanted = {"position": len(before)}
                            self.refused(InvalidNumbers, wanted, layout.slack, 0, kept=value)
                            self.refused(InvalidNumbers, wanted, layout.short_level, value)
                            self.refused(InvalidNumbers, wanted, layout.fits, kept=value)
                            self.refused(InvalidNumbers, wanted, layout.largest, kept=value)

    def test_numbers_of_fits(self):
        for layout in self.layouts:
            for wrong in NO_CELLS:
                self.refused_value(InvalidNumber, wrong, layout.fits, wrong)
                self.refused_value(InvalidNumber, wrong, layout.fits, wrong, 1, True, 0)
                self.refused_value(InvalidNumber, wrong, layout.fits, 1, TRILLION, wrong)
                for kept in WRONG:
                    self.refused_value(InvalidNumber, wrong, layout.fits, wrong, kept=kept)
                    self.refused_value(InvalidNumber, wrong, layout.fits, 5, wrong, kept=kept)

    def test_kept_is_passed_by_name(self):
        layout = self.layouts[0]
        self.assertRaises(TypeError, layout.slack, 0, [1])
        self.assertRaises(TypeError, layout.largest, [1])

    def test_arguments_by_name(self):
        layout = self.layouts[0]
        self.same([layout.slack(kept=[1], level=1), layout.slack(level=0)], [6, 5])
        self.same([layout.free_regions(level=1), layout.clear_cells(level=1), layout.unpinned_cells(level=0)], [2, 6, 1])
        self.same([layout.short_level(numbers=[6]), layout.short_level(numbers=(5,))], [0, None])

    def test_arguments_are_not_changed(self):
        layout = self.layouts[0]
        for value in [[2, 1], [1, 0, [1]], [[1], {"a": 1}], [TRILLION], []]:
            before = repr(value)
            for call in [layout.short_level, lambda kept: layout.slack(1, kept=kept),
                         lambda kept: layout.largest(kept=kept), lambda kept: layout.fits(1, kept=kept)]:
                try:
                    call(value)
                except InvalidNumbers:
                    pass
                self.assertEqual(repr(value), before)

    def test_returned_lists_are_new_and_queries_can_be_repeated(self):
        layout = self.layouts[0]
        wanted = [(0, 1, 1), (2, 4, 1)]
        for _ in range(3):
            found = layout.free_runs()
            self.same(found, wanted)
            found.clear()
            self.same(list(layout.free_addresses(1)), [4, 6])
            self.same([layout.largest(), layout.slack(2), layout.short_level([6]), layout.fits(5)], [5, 4, 0, True])


if __name__ == "__main__":
    unittest.main()
