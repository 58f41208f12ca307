"""Layouts and their blocks: changes, equality, copies and wrong values, against plain lists of blocks."""

import random
import unittest

from exactroom.errors import InvalidAddress, InvalidLevel, InvalidNumber, Occupied, UnknownBlock
from exactroom.layouts import Layout
from exactroom.sizes import Sizes
from tests import plain
from tests.checks import NO_ADDRESSES, NO_CELLS, NO_INTEGERS, Checks, Odd, no_levels

METHODS = """
    __init__ __eq__ __len__ __repr__ sizes length free blocks put take_out set_pinned block_at free_runs free_regions
    free_addresses clear_cells unpinned_cells slack short_level fits largest clone
""".split()
WRONG = [True, False, None, -1, "a", [0], (0,), {}, {"a": 1}]


class ExampleTest(Checks):

    def setUp(self):
        self.layout = Layout(Sizes([1, 2, 4, 8]), 16)
        self.assertIsNone(self.layout.put(1, 2))
        self.assertIsNone(self.layout.put(0, 5, pinned=True))

    def test_kinds(self):
        layout = self.layout
        found = [len(layout), layout == Layout(Sizes([1, 2, 4, 8]), 16), layout]
        self.assertEqual(repr(found), "[2, False, Layout(16, [(2, 1, False), (5, 0, True)])]")
        found = [layout.sizes, layout.length, layout.free, layout.blocks()]
        self.assertEqual(repr(found), "[Sizes([1, 2, 4, 8]), 16, 13, [(2, 1, False), (5, 0, True)]]")

    def test_put(self):
        self.assertIsNone(self.layout.put(2, 8))
        self.same(self.layout.blocks(), [(2, 1, False), (5, 0, True), (8, 2, False)])
        self.refused(Occupied, {"address": 5}, self.layout.put, 2, 4)

    def test_take_out(self):
        layout = self.layout
        self.assertIsNone(layout.set_pinned(2, True))
        self.same([layout.take_out(2), layout.blocks()], [(1, True), [(5, 0, True)]])
        self.refused_value(UnknownBlock, 3, layout.take_out, 3)

    def test_block_at(self):
        self.same([self.layout.block_at(3), self.layout.block_at(4)], [(2, 1, False), None])

    def test_clone(self):
        copy = self.layout.clone()
        self.assertIsNone(copy.put(3, 8))
        self.same([len(copy), len(self.layout)], [3, 2])

    def test_methods_stand_in_the_class_itself(self):
        for name in METHODS:
            self.assertIn(name, vars(Layout))
        for name in ["sizes", "length", "free"]:
            self.assertIsInstance(vars(Layout)[name], property)
            with self.assertRaises(AttributeError):
                setattr(self.layout, name, 1)


class ChangesTest(Checks):

    def check_state(self, layout, values, length, blocks):
        """Check everything that shows the blocks of a layout against a plain list."""
        blocks = sorted(blocks)
        self.same(layout.blocks(), blocks)
        self.same(len(layout), len(blocks))
        self.same(repr(layout), "Layout(" + str(length) + ", " + repr(blocks) + ")")
        self.same(layout.free, length - len(plain.taken_cells(values, blocks)))
        self.same([layout.length, layout.sizes.all_sizes()], [length, values])
        for address in range(length):
            inside = [block for block in blocks if address in plain.cells_of(values, block[0], block[1])]
            self.same(layout.block_at(address), inside[0] if inside else None)

    def try_put(self, layout, values, length, blocks, block):
        """Put a block where it may be put or not, and return the blocks afterwards."""
        address, level, is_pinned = block
        if address not in plain.regions(values, length, level):
            self.refused(InvalidAddress, {"value": address}, layout.put, level, address, pinned=is_pinned)
            return blocks
        taken = plain.taken_cells(values, blocks)
        inside = [cell for cell in plain.cells_of(values, address, level) if cell in taken]
        if inside:
            self.refused(Occupied, {"address": inside[0]}, layout.put, level, address, pinned=is_pinned)
            return blocks
        self.assertIsNone(layout.put(level, address, pinned=is_pinned))
        return blocks + [block]

    def try_address(self, layout, blocks, source, address):
        """Take a block out, or pin or unpin it, where one starts or not, and return the blocks afterwards."""
        starting = [block for block in blocks if block[0] == address]
        others = [block for block in blocks if block[0] != address]
        pinned = source.random() < 0.5
        if source.random() < 0.5:
            if starting:
                self.same(layout.take_out(address), (starting[0][1], starting[0][2]))
                return others
            self.refused(UnknownBlock, {"value": address}, layout.take_out, address)
            return blocks
        if starting:
            self.assertIsNone(layout.set_pinned(address, pinned))
            return others + [(address, starting[0][1], pinned)]
        self.refused(UnknownBlock, {"value": address}, layout.set_pinned, address, pinned)
        return blocks

    def test_many_changes(self):
        source = random.Random(5)
        for values, length in plain.MEDIUM + [([1], 9), ([1, 2, 4, 8], 8), ([1, 2], 1), ([1, 40], 60)]:
            layout = Layout(Sizes(values), length)
            blocks = []
            for _ in range(160):
                if source.random() < 0.6:
                    level = source.randrange(len(values))
                    step = source.choice([1, values[level], values[level], values[level]])
                    address = source.randrange(0, length + 9, step)
                    block = (address, level, source.random() < 0.3)
                    blocks = self.try_put(layout, values, length, blocks, block)
                else:
                    starts = [block[0] for block in blocks] + [source.randrange(length + 5)]
                    blocks = self.try_address(layout, blocks, source, source.choice(starts))
                self.check_state(layout, values, length, blocks)

    def test_every_block_in_every_tiny_layout(self):
        for values, length, blocks in plain.tiny_layouts(step=7):
            layout = plain.build(values, length, blocks)
            before = repr(layout)
            for level in range(len(values)):
                for address in range(length + 2):
                    after = self.try_put(layout, values, length, blocks, (address, level, False))
                    if len(after) > len(blocks):
                        self.same(layout.take_out(address), (level, False))
                    self.assertEqual(repr(layout), before)

    def test_far_blocks(self):
        million, longest = 10 ** 6, 10 ** 12
        layout = Layout(Sizes([1, million, 10 ** 9]), longest)
        layout.put(0, longest - 1)
        layout.put(1, longest - 2 * million, pinned=True)
        layout.put(2, 0)
        self.same(layout.free, longest - 1 - million - 10 ** 9)
        self.same(layout.block_at(longest - million), None)
        self.same(layout.block_at(longest - million - 1), (longest - 2 * million, 1, True))
        self.same(layout.block_at(10 ** 9 - 1), (0, 2, False))
        self.same(layout.block_at(10 ** 9), None)
        self.same(layout.block_at(longest - 1), (longest - 1, 0, False))
        self.refused(Occupied, {"address": longest - 1}, layout.put, 1, longest - million)
        self.refused(Occupied, {"address": longest - 2 * million}, layout.put, 2, longest - 10 ** 9)
        self.refused(Occupied, {"address": 5}, layout.put, 0, 5)
        self.refused_value(InvalidAddress, longest, layout.put, 0, longest)
        self.refused_value(InvalidAddress, longest, layout.block_at, longest)
        self.same(layout.take_out(longest - 2 * million), (1, True))
        self.refused(Occupied, {"address": longest - 1}, layout.put, 2, longest - 10 ** 9)
        self.same(layout.take_out(longest - 1), (0, False))
        layout.put(2, longest - 10 ** 9)
        self.same(layout.blocks(), [(0, 2, False), (longest - 10 ** 9, 2, False)])

    def test_two_hundred_blocks(self):
        layout = Layout(Sizes([1, 2]), 400)
        for address in list(range(398, -1, -4)) + list(range(0, 400, 4)):
            layout.put(1, address, pinned=address % 3 == 0)
        self.same(layout.blocks(), [(address, 1, address % 3 == 0) for address in range(0, 400, 2)])
        self.same([len(layout), layout.free], [200, 0])

    def test_arguments_by_name(self):
        layout = Layout(length=8, sizes=Sizes([1, 2]))
        layout.put(address=2, level=1)
        layout.put(pinned=True, address=0, level=0)
        layout.put(0, 1, pinned=False)
        layout.set_pinned(pinned=True, address=2)
        self.same(layout.block_at(address=3), (2, 1, True))
        self.same(layout.take_out(address=0), (0, True))
        self.same(layout.blocks(), [(1, 0, False), (2, 1, True)])

    def test_pinned_is_passed_by_name(self):
        layout = Layout(Sizes([1, 2]), 8)
        self.assertRaises(TypeError, layout.put, 1, 2, True)
        self.same(layout.blocks(), [])

    def test_pinning_twice(self):
        layout = Layout(Sizes([1, 2]), 8)
        layout.put(1, 2)
        for pinned in [True, True, False, False, True]:
            layout.set_pinned(2, pinned)
            self.same([layout.blocks(), layout.free], [[(2, 1, pinned)], 6])


class EqualityTest(Checks):

    def test_equality(self):
        made = [Layout(Sizes(values), length) for values in [[1, 2], [1, 2, 4]] for length in [8, 9]]
        for values, blocks in [([1, 2], [(0, 0, False)]), ([1, 2], [(0, 0, True)]), ([1, 2], [(0, 1, False)]),
                               ([1, 2], [(2, 1, False)]), ([1, 2], [(0, 0, False), (1, 0, False)]),
                               ([1, 2, 4], [(0, 0, False)]), ([1, 2, 4], [(4, 2, True), (0, 0, False)])]:
            made.append(plain.build(values, 8, blocks))
        for at, one in enumerate(made):
            for other_at, other in enumerate(made):
                self.assertIs(one == other, at == other_at)
                self.assertIs(one != other, at != other_at)

    def test_the_history_does_not_matter(self):
        one = plain.build([1, 2, 4], 12, [(0, 2, True), (6, 1, False), (9, 0, False)])
        other = plain.build([1, 2, 4], 12, [(9, 0, True), (4, 0, False), (6, 1, False)])
        other.take_out(4)
        other.set_pinned(9, False)
        self.assertIs(one == other, False)
        other.put(2, 0, pinned=True)
        self.assertIs(one == other, True)
        self.assertIs(other == one, True)

    def test_no_other_value_is_equal(self):
        layout = Layout(Sizes([1]), 1)
        for value in NO_INTEGERS + [1, [], "Layout(1, [])", Odd(), Layout, Sizes([1])]:
            self.assertIs(layout == value, False)
            self.assertIs(layout != value, True)

    def test_clones_are_equal_and_independent(self):
        for values, length, blocks in plain.medium_layouts(3, 4):
            layout = plain.build(values, length, blocks)
            copy = layout.clone()
            self.assertIs(type(copy), Layout)
            self.assertIs(copy == layout, True)
            before = repr(layout)
            for address, level, is_pinned in blocks:
                copy.set_pinned(address, not is_pinned)
                self.assertIs(copy == layout, False)
                self.same(copy.take_out(address), (level, not is_pinned))
                self.assertEqual(repr(layout), before)
            self.same([layout.free, copy.free], [length - len(plain.taken_cells(values, blocks)), length])
            other = layout.clone()
            for address, level, is_pinned in blocks:
                layout.take_out(address)
            self.assertEqual(repr(other), before)
            self.assertIs(other == layout, not blocks)
            self.assertIs(copy == layout, True)

    def test_clones_after_a_change_of_one(self):
        layout = plain.build([1, 2], 8, [(2, 1, False)])
        copy = layout.clone()
        copy.put(0, 0)
        self.assertIs(copy == layout, False)
        layout.put(0, 0)
        self.assertIs(copy == layout, True)
        layout.set_pinned(0, True)
        self.assertIs(copy == layout, False)
        self.same(copy.blocks(), [(0, 0, False), (2, 1, False)])

    def test_returned_lists_are_new(self):
        layout = plain.build([1, 2], 8, [(2, 1, False)])
        found = layout.blocks()
        found.append((0, 0, False))
        found[0] = None
        self.same(layout.blocks(), [(2, 1, False)])
        self.same(len(layout), 1)


class WrongValuesTest(Checks):

    def setUp(self):
        self.layout = plain.build([1, 2, 4, 8], 16, [(0, 0, False), (1, 0, True), (2, 1, False), (8, 2, True)])
        self.before = repr(self.layout)

    def tearDown(self):
        self.assertEqual(repr(self.layout), self.before)
        self.same(self.layout.free, 8)

    def test_lengths(self):
        for value in NO_CELLS:
            self.refused_value(InvalidNumber, value, Layout, Sizes([1, 2]), value)
            self.refused_value(InvalidNumber, value, Layout, sizes=Sizes([1, 2]), length=value)
        for value in [1, 2, 10 ** 12]:
            self.same(Layout(Sizes([1, 2]), value).free, value)

    def test_levels_of_put(self):
        for value in no_levels(self.layout.sizes):
            self.refused_value(InvalidLevel, value, self.layout.put, value, 4)
            self.refused_value(InvalidLevel, value, self.layout.put, level=value, address=0)
            for wrong in WRONG:
                self.refused_value(InvalidLevel, value, self.layout.put, value, wrong)

    def test_addresses_of_put(self):
        for value in NO_ADDRESSES + [16, 17, 24, 10 ** 12, 10 ** 30]:
            for level in range(4):
                self.refused_value(InvalidAddress, value, self.layout.put, level, value)
                self.refused_value(InvalidAddress, value, self.layout.put, level=level, address=value, pinned=True)
        for level, value in [(1, 1), (1, 5), (2, 2), (2, 6), (3, 4), (3, 12), (1, 15), (3, 9)]:
            self.refused_value(InvalidAddress, value, self.layout.put, level, value)

    def test_a_region_that_reaches_over_the_end(self):
        layout = Layout(Sizes([1, 2, 4, 8]), 15)
        for level, value in [(1, 14), (2, 12), (3, 8)]:
            self.refused_value(InvalidAddress, value, layout.put, level, value)
        layout.put(0, 14)
        self.same(layout.blocks(), [(14, 0, False)])

    def test_occupied_cells(self):
        for level, address, taken in [(0, 0, 0), (0, 1, 1), (1, 0, 0), (2, 0, 0), (3, 0, 0), (0, 3, 3), (1, 2, 2),
                                      (3, 8, 8), (1, 10, 10), (0, 11, 11)]:
            for pinned in [True, False]:
                self.refused(Occupied, {"address": taken}, self.layout.put, level, address, pinned=pinned)

    def test_addresses_without_a_block(self):
        for value in NO_ADDRESSES + [3, 4, 5, 7, 9, 11, 12, 15, 16, 24, 10 ** 12, 10 ** 30]:
            self.refused_value(UnknownBlock, value, self.layout.take_out, value)
            self.refused_value(UnknownBlock, value, self.layout.take_out, address=value)
            for pinned in [True, False]:
                self.refused_value(UnknownBlock, value, self.layout.set_pinned, value, pinned)

    def test_true_and_false_are_no_addresses_of_blocks(self):
        for value in [True, False]:
            for call in [self.layout.take_out, lambda value: self.layout.set_pinned(value, True)]:
                self.refused_value(UnknownBlock, value, call, value)
            self.refused_value(InvalidAddress, value, self.layout.block_at, value)

    def test_addresses_of_block_at(self):
        for value in NO_ADDRESSES + [16, 17, 10 ** 12, 10 ** 30]:
            self.refused_value(InvalidAddress, value, self.layout.block_at, value)
            self.refused_value(InvalidAddress, value, self.layout.block_at, address=value)

    def test_wrong_values_are_not_changed(self):
        for value in [[1], [True], {1: 2}, {"a": 1}, [[1], (2,)]]:
            before = repr(value)
            self.assertRaises(InvalidNumber, Layout, Sizes([1]), value)
            self.assertRaises(InvalidLevel, self.layout.put, value, value)
            self.assertRaises(InvalidAddress, self.layout.put, 0, value)
            self.assertRaises(UnknownBlock, self.layout.take_out, value)
            self.assertRaises(UnknownBlock, self.layout.set_pinned, value, True)
            self.assertRaises(InvalidAddress, self.layout.block_at, value)
            self.assertEqual(repr(value), before)


if __name__ == "__main__":
    unittest.main()
