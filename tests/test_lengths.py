"""Shortening: against a search over all arrangements, against plain looks at cells, and far away."""

import random
import unittest

from exactroom.errors import InvalidNumber, NoRoom, Occupied
from exactroom.layouts import Layout
from exactroom.lengths import shortening_moves
from exactroom.moves import is_rearrangement, rearranged
from exactroom.sizes import Sizes
from tests import far, plain
from tests.checks import NO_CELLS, Checks, LayoutCase


def numbers_of(values, blocks):
    """Return the sizes of the unpinned blocks."""
    return [values[level] for _, level, is_pinned in blocks if not is_pinned]


def pinned_of(blocks):
    return [block for block in blocks if block[2]]


class ExampleTest(LayoutCase):

    def test_examples(self):
        layout = self.layout
        self.same(shortening_moves(layout, 7), [])
        self.same(rearranged(layout, shortening_moves(layout, 4)).blocks(), [(at, 0, False) for at in range(4)])
        self.refused(NoRoom, {"level": 0}, shortening_moves, layout, 3)

    def test_arguments_by_name(self):
        self.same(shortening_moves(length=7, layout=self.layout), [])
        self.same(shortening_moves(length=5, layout=self.layout), shortening_moves(self.layout, 5))

    def test_wrong_lengths(self):
        for value in NO_CELLS + [9, 10, 10 ** 12]:
            self.refused_value(InvalidNumber, value, shortening_moves, self.layout, value)
            self.refused_value(InvalidNumber, value, shortening_moves, length=value, layout=self.layout)


class SmallTest(Checks):

    def wanted(self, values, blocks, length):
        """Return the error with its attributes that the length must lead to, or None."""
        pinned = pinned_of(blocks)
        beyond = [cell for cell in sorted(plain.taken_cells(values, pinned)) if cell >= length]
        if beyond:
            return Occupied, {"address": beyond[0]}
        short = plain.short_level(values, length, pinned, numbers_of(values, blocks))
        return None if short is None else (NoRoom, {"level": short})

    def check_length(self, values, old_length, blocks, length):
        """Check the moves to one length, and return them, or None if there is an error."""
        layout = plain.build(values, old_length, blocks)
        before = repr(layout)
        error = self.wanted(values, blocks, length)
        if error is not None:
            self.refused(*error, shortening_moves, layout, length)
            self.assertEqual(repr(layout), before)
            return None
        moves = shortening_moves(layout, length)
        self.same(plain.wrong_move(values, old_length, blocks, moves), None)
        self.same(is_rearrangement(layout, moves), True)
        after = plain.blocks_after(blocks, moves)
        self.assertTrue(all(address + values[level] <= length for address, level, _ in after))
        if all(address + values[level] <= length for address, level, _ in blocks):
            self.same(moves, [])
        self.same(shortening_moves(layout, length), moves)
        self.assertEqual(repr(layout), before)
        return moves

    def test_tiny_layouts_against_all_arrangements(self):
        moved = refused = 0
        for values, old_length, blocks in plain.tiny_layouts(step=3):
            for length in range(1, old_length + 1):
                moves = self.check_length(values, old_length, blocks, length)
                within = all(address + values[level] <= length for address, level, _ in pinned_of(blocks))
                possible = within and plain.has_arrangement(values, length, pinned_of(blocks),
                                                            numbers_of(values, blocks))
                self.assertEqual(moves is not None, possible)
                moved += bool(moves)
                refused += within and not possible
        self.assertTrue(moved > 1000 and refused > 1000)

    def test_medium_layouts(self):
        moved = refused = occupied = 0
        levels = set()
        for values, old_length, blocks in plain.medium_layouts(211, 30):
            for length in range(1, old_length + 1):
                moved += bool(self.check_length(values, old_length, blocks, length))
                error = self.wanted(values, blocks, length)
                refused += error is not None and error[0] is NoRoom
                occupied += error is not None and error[0] is Occupied
                levels.add(error[1].get("level") if error is not None else None)
        self.assertTrue(moved > 300 and refused > 300 and occupied > 300)
        # Not only the cells, but also the larger regions can be too few.
        self.assertTrue({0, 1, 2} <= levels)

    def test_pinned_blocks_at_the_end(self):
        layout = plain.build([1, 2, 4], 12, [(0, 0, False), (4, 2, True), (10, 1, True)])
        for length in range(1, 12):
            self.refused(Occupied, {"address": max(length, 4) if length < 8 else max(length, 10)},
                         shortening_moves, layout, length)
        self.same(shortening_moves(layout, 12), [])

    def test_a_pinned_block_counts_before_missing_room(self):
        layout = plain.build([1, 2, 4], 8, [(0, 2, False), (4, 2, True)])
        self.refused(Occupied, {"address": 6}, shortening_moves, layout, 6)
        layout.set_pinned(4, False)
        self.refused(NoRoom, {"level": 0}, shortening_moves, layout, 6)
        layout.take_out(4)
        layout.put(0, 7, pinned=True)
        self.refused(Occupied, {"address": 7}, shortening_moves, layout, 3)

    def test_a_block_that_crosses_the_new_end(self):
        layout = plain.build([1, 4], 8, [(0, 0, False), (4, 1, False)])
        moves = shortening_moves(layout, 5)
        self.same(moves, [(0, 4), (4, 0)])
        self.refused(NoRoom, {"level": 0}, shortening_moves, layout, 4)
        layout = plain.build([1, 4], 8, [(0, 0, True), (4, 1, False)])
        self.refused(NoRoom, {"level": 1}, shortening_moves, layout, 7)

    def test_layouts_without_blocks(self):
        for length in range(1, 10):
            self.same(shortening_moves(Layout(Sizes([1, 2, 4]), 9), length), [])

    def test_returned_lists_are_new(self):
        layout = plain.build([1, 2], 4, [(3, 0, False)])
        shortening_moves(layout, 2).clear()
        self.same(shortening_moves(layout, 2), [(3, 0)])


class FarTest(Checks):

    def check_length(self, values, old_length, blocks, length):
        layout = plain.build(values, old_length, blocks)
        pinned = pinned_of(blocks)
        beyond = [max(address, length) for address, level, _ in pinned if address + values[level] > length]
        if beyond:
            self.refused(Occupied, {"address": min(beyond)}, shortening_moves, layout, length)
            return 0
        slacks = [far.untouched(values, length, pinned, level) * size
                  - sum(values[block[1]] for block in blocks if not block[2] and block[1] >= level)
                  for level, size in enumerate(values)]
        short = [level for level, slack in enumerate(slacks) if slack < 0]
        if short:
            self.refused(NoRoom, {"level": short[0]}, shortening_moves, layout, length)
            return 0
        moves = shortening_moves(layout, length)
        goals = dict(moves)
        self.same(is_rearrangement(layout, moves), True)
        after = [(goals.get(address, address), level) for address, level, _ in blocks]
        self.assertTrue(far.are_regions(values, length, after))
        if far.are_regions(values, length, [block[:2] for block in blocks]):
            self.same(moves, [])
        return len(moves)

    def test_far_layouts(self):
        source = random.Random(223)
        moved = 0
        for values, old_length in far.FAR:
            for at in range(6):
                blocks = far.far_blocks(source, values, old_length)
                if at % 2 == 0:
                    # Without pins almost everything can be put at the front.
                    blocks = [(address, level, False) for address, level, _ in blocks]
                cells = sum(numbers_of(values, blocks))
                lengths = [1, old_length, cells, cells + 1, cells + values[-1], 2 * cells, old_length - 1]
                lengths += [source.randrange(1, old_length + 1) for _ in range(6)]
                for length in lengths:
                    if 1 <= length <= old_length:
                        moved += self.check_length(values, old_length, blocks, length)
        self.assertTrue(moved > 1000)

    def test_two_hundred_far_blocks(self):
        source = random.Random(227)
        for values in [[1, 10 ** 6, 10 ** 9], [1, 2, 2 * 10 ** 6], [1, 10, 1000, 10 ** 5, 10 ** 9]]:
            blocks = far.far_blocks(source, values, 10 ** 12, tries=2500)[:200]
            blocks = [(address, level, False) for address, level, _ in blocks]
            self.assertEqual(len(blocks), 200)
            cells = sum(numbers_of(values, blocks))
            self.assertTrue(self.check_length(values, 10 ** 12, blocks, cells) > 100)
            self.check_length(values, 10 ** 12, blocks, cells - 1)


if __name__ == "__main__":
    unittest.main()
