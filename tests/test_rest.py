"""Rest: how many free regions there can be, which layouts have them, and how settling gets there."""

import random
import unittest

from exactroom.layouts import Layout
from exactroom.moves import is_rearrangement, rearranged
from exactroom.rest import is_at_rest, rest_counts, settling_moves
from exactroom.room import chosen_addresses, room
from exactroom.sizes import Sizes
from tests import far, plain
from tests.checks import Checks, LayoutCase


def free_counts(values, length, blocks):
    return [len(plain.free_regions(values, length, blocks, level)) for level in range(len(values))]


class ExampleTest(LayoutCase):

    def test_rest(self):
        layout = self.layout
        self.same([rest_counts(layout), is_at_rest(layout), is_at_rest(Layout(layout.sizes, 8))],
                  [[4, 2, 1, 0], False, True])

    def test_settling(self):
        self.same(is_at_rest(rearranged(self.layout, settling_moves(self.layout))), True)

    def test_arguments_by_name(self):
        layout = self.layout
        self.same([rest_counts(layout=layout), is_at_rest(layout=layout)], [[4, 2, 1, 0], False])
        self.same(settling_moves(layout=layout), settling_moves(layout))


class SmallTest(Checks):

    def check(self, values, length, blocks):
        """Check rest and settling of a layout, and return the blocks afterwards."""
        layout = plain.build(values, length, blocks)
        before = repr(layout)
        wanted = plain.rest_counts(values, length, blocks)
        found = free_counts(values, length, blocks)
        self.same(rest_counts(layout), wanted)
        self.same(is_at_rest(layout), found == wanted)
        # There are never more.
        self.assertTrue(all(count <= most for count, most in zip(found, wanted)))
        moves = settling_moves(layout)
        self.same(plain.wrong_move(values, length, blocks, moves), None)
        self.same(is_rearrangement(layout, moves), True)
        after = plain.blocks_after(blocks, moves)
        self.same(free_counts(values, length, after), wanted)
        self.same(is_at_rest(plain.build(values, length, after)), True)
        self.same(settling_moves(plain.build(values, length, after)), [])
        if found == wanted:
            self.same(moves, [])
        self.same(settling_moves(layout), moves)
        self.assertEqual(repr(layout), before)
        return after

    def test_tiny_layouts(self):
        at_rest = 0
        for values, length, blocks in plain.tiny_layouts(step=2):
            at_rest += self.check(values, length, blocks) == blocks
        self.assertTrue(at_rest > 300)

    def test_medium_layouts(self):
        moved = 0
        for values, length, blocks in plain.medium_layouts(113, 60):
            moved += self.check(values, length, blocks) != blocks
        self.assertTrue(moved > 100)

    def test_the_counts_can_be_reached_and_not_more(self):
        for values, length, blocks in plain.tiny_layouts(step=23):
            counts = rest_counts(plain.build(values, length, blocks))
            for level, count in enumerate(counts):
                if count > 0:
                    self.assertTrue(plain.has_arrangement(values, length, blocks, [values[level]] * count))
                self.assertFalse(plain.has_arrangement(values, length, blocks, [values[level]] * (count + 1)))

    def test_layouts_without_unpinned_blocks_are_at_rest(self):
        for values, length, blocks in plain.medium_layouts(127, 9):
            pinned = [(address, level, True) for address, level, _ in blocks]
            self.assertEqual(self.check(values, length, pinned), pinned)
            self.check(values, length, [])

    def test_one_size(self):
        for blocks in [[], [(0, 0, False)], [(1, 0, False), (3, 0, True)], [(at, 0, False) for at in range(5)]]:
            layout = plain.build([1], 5, blocks)
            self.same([rest_counts(layout), is_at_rest(layout), settling_moves(layout)], [[5 - len(blocks)], True, []])

    def test_known_layouts(self):
        layout = plain.build([1, 2, 4], 12, [(0, 0, False), (4, 0, False), (8, 1, False)])
        self.same([rest_counts(layout), is_at_rest(layout)], [[8, 4, 2], False])
        layout = plain.build([1, 2, 4], 12, [(0, 0, True), (4, 0, False), (8, 1, False)])
        self.same([rest_counts(layout), is_at_rest(layout)], [[8, 4, 2], False])
        layout = plain.build([1, 2, 4], 12, [(0, 0, True), (4, 0, True), (8, 1, False)])
        self.same([rest_counts(layout), is_at_rest(layout)], [[8, 3, 1], False])
        layout = plain.build([1, 2, 4], 12, [(0, 0, True), (1, 0, False), (2, 1, False), (4, 0, True)])
        self.same([rest_counts(layout), is_at_rest(layout)], [[7, 3, 1], True])
        layout = plain.build([1, 2, 4], 3, [(0, 0, False)])
        self.same([rest_counts(layout), is_at_rest(layout)], [[2, 1, 0], False])

    def test_returned_lists_are_new(self):
        layout = plain.build([1, 2], 4, [(0, 0, False), (2, 0, False)])
        wanted = settling_moves(layout)
        settling_moves(layout).clear()
        rest_counts(layout).clear()
        self.same([settling_moves(layout), rest_counts(layout)], [wanted, [2, 1]])
        self.assertEqual(len(wanted), 1)


class StillAtRestTest(Checks):

    def test_after_any_request_and_any_pin_in_tiny_layouts(self):
        requests = pins = 0
        for values, length, blocks in plain.tiny_layouts(step=2):
            layout = plain.build(values, length, blocks)
            if not is_at_rest(layout):
                continue
            for cells in range(1, layout.largest() + 1):
                after = layout.clone()
                addresses = chosen_addresses(layout, cells)
                self.same(room(layout, cells), ([], addresses))
                for level, address in zip(layout.sizes.pieces(cells), addresses):
                    after.put(level, address)
                self.same(is_at_rest(after), True)
                requests += 1
            for address, level, is_pinned in blocks:
                after = layout.clone()
                after.set_pinned(address, True)
                self.same(is_at_rest(after), True)
                pins += not is_pinned
        self.assertTrue(requests > 1000 and pins > 1000)

    def test_after_many_requests_and_pins(self):
        source = random.Random(131)
        for values, length, blocks in plain.medium_layouts(137, 15):
            layout = plain.build(values, length, blocks)
            layout = rearranged(layout, settling_moves(layout))
            while layout.largest() > 0:
                cells = source.randrange(1, min(layout.largest(), 9) + 1)
                moves, addresses = room(layout, cells)
                self.same([moves, addresses], [[], chosen_addresses(layout, cells)])
                for level, address in zip(layout.sizes.pieces(cells), addresses):
                    layout.put(level, address)
                self.same(free_counts(values, length, layout.blocks()),
                          plain.rest_counts(values, length, layout.blocks()))
                self.same(is_at_rest(layout), True)
                layout.set_pinned(source.choice(layout.blocks())[0], True)
                self.same(is_at_rest(layout), True)


class FarTest(Checks):

    def check(self, values, length, blocks):
        layout = plain.build(values, length, blocks)
        slacks = far.slacks(values, length, blocks)
        wanted = [min(slacks[:level + 1]) // size for level, size in enumerate(values)]
        self.same(rest_counts(layout), wanted)
        found = [far.untouched(values, length, blocks, level) for level in range(len(values))]
        self.same(is_at_rest(layout), found == wanted)
        moves = settling_moves(layout)
        goals = dict(moves)
        self.assertTrue(all(layout.block_at(old) == (old, layout.block_at(old)[1], False) for old in goals))
        after = [(goals.get(address, address), level, is_pinned) for address, level, is_pinned in blocks]
        self.assertTrue(far.are_regions(values, length, [block[:2] for block in after]))
        self.same([far.untouched(values, length, after, level) for level in range(len(values))], wanted)
        self.same(is_at_rest(rearranged(layout, moves)), True)
        self.assertTrue(moves == [] if found == wanted else moves != [])
        return len(moves)

    def test_far_layouts(self):
        source = random.Random(139)
        moved = 0
        for values, length in far.FAR:
            for _ in range(5):
                moved += self.check(values, length, far.far_blocks(source, values, length))
        self.assertTrue(moved > 100)

    def test_two_hundred_far_blocks(self):
        source = random.Random(149)
        for values, length in [([1, 10 ** 6, 10 ** 9], 10 ** 12), ([1, 2, 2 * 10 ** 6], 10 ** 12),
                               ([1, 10, 100, 1000, 10 ** 4, 10 ** 5, 10 ** 6, 10 ** 9], 10 ** 12)]:
            blocks = far.far_blocks(source, values, length, tries=2500)[:200]
            self.assertEqual(len(blocks), 200)
            self.assertTrue(self.check(values, length, blocks) > 0)

    def test_scattered_cells(self):
        values = [1, 10 ** 6, 10 ** 9]
        blocks = [(k * 10 ** 9 + k * 10 ** 6 + k, 0, k % 50 == 7) for k in range(200)]
        moved = self.check(values, 10 ** 12, blocks)
        self.assertTrue(0 < moved <= 196)
        self.same(rest_counts(Layout(Sizes(values), 10 ** 12)), [10 ** 12, 10 ** 6, 1000])


if __name__ == "__main__":
    unittest.main()
