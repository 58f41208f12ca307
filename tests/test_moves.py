"""Rearrangements: right and wrong lists of moves, what they do, their cost, and the cheapest regions."""

import random
import unittest

from exactroom.errors import InvalidLevel, InvalidMoves
from exactroom.layouts import Layout
from exactroom.moves import cheapest_region, composed, cost, inverse, is_rearrangement, moved_level, rearranged
from exactroom.sizes import Sizes
from tests import plain
from tests.checks import NO_ADDRESSES, NO_LISTS, Checks, LayoutCase, no_levels

TRILLION = 10 ** 12
NO_MOVES = [wrong for value in NO_ADDRESSES for wrong in [value, (1, value), (value, 7)]]
NO_MOVES += [(), (1,), (1, 7, 7), [1, 7], [], (1, 1), (7, 7), ((1, 7),), "17", b"17", {1: 7}, 17]


class ExampleTest(LayoutCase):

    def test_is_rearrangement(self):
        layout = self.layout
        found = [is_rearrangement(layout, [(1, 7), (3, 1)]), is_rearrangement(layout, [(1, 3)]),
                 is_rearrangement(layout, [])]
        self.same(found, [True, False, True])

    def test_rearranged(self):
        layout = self.layout
        found = [rearranged(layout, [(1, 7), (3, 5)]).blocks(), cost(layout, [(1, 7), (3, 5)]),
                 moved_level(layout, [(1, 7)])]
        self.same(found, [[(4, 0, False), (5, 0, False), (6, 0, False), (7, 0, False)], 2, 0])
        self.refused(InvalidMoves, {"position": 1}, rearranged, layout, [(1, 7), (3, 6)])
        self.refused(InvalidMoves, {"position": 0}, rearranged, layout, [(1, 7), (3, 7)])

    def test_composed(self):
        found = [inverse([(1, 7), (3, 5)]), composed([(1, 7), (3, 5)], [(7, 3), (4, 1)]),
                 composed([(1, 7)], [(7, 1)])]
        self.same(found, [[(5, 3), (7, 1)], [(1, 3), (3, 5), (4, 1)], []])

    def test_cheapest_region(self):
        self.same([cheapest_region(self.layout, 2), cheapest_region(self.layout, 0)], [(0, 2), (0, 0)])


class RearrangementTest(Checks):

    def check_right(self, values, length, blocks, moves):
        """Check everything about a list of moves that is a rearrangement."""
        layout = plain.build(values, length, blocks)
        self.same(plain.wrong_move(values, length, blocks, moves), None)
        before = repr(moves)
        self.same(is_rearrangement(layout, moves), True)
        after = rearranged(layout, moves)
        self.assertIs(type(after), Layout)
        self.same(after.blocks(), plain.blocks_after(blocks, moves))
        self.same([after.length, repr(after.sizes), after.free], [length, repr(Sizes(values)), layout.free])
        levels = {address: level for address, level, _ in blocks}
        self.same(cost(layout, moves), sum(values[levels[old]] for old, _ in moves))
        self.same(moved_level(layout, moves), max((levels[old] for old, _ in moves), default=None))
        self.same(layout.blocks(), sorted(blocks))
        self.assertEqual(repr(moves), before)
        return after

    def check_wrong(self, values, length, blocks, value, position):
        """Check that every function refuses a value with this position."""
        layout = plain.build(values, length, blocks)
        before = repr(layout)
        self.same(is_rearrangement(layout, value), False)
        for call in [rearranged, cost, moved_level]:
            self.refused(InvalidMoves, {"position": position}, call, layout, value)
            self.refused(InvalidMoves, {"position": position}, call, moves=value, layout=layout)
        self.assertEqual(repr(layout), before)

    def check(self, values, length, blocks, moves):
        position = plain.wrong_move(values, length, blocks, moves)
        if position is None:
            self.check_right(values, length, blocks, moves)
        else:
            self.check_wrong(values, length, blocks, moves, position)
        return position is None

    def test_exchanges_chains_and_rings(self):
        blocks = [(0, 0, False), (1, 0, False), (2, 1, False), (4, 1, False), (8, 2, False), (15, 0, True)]
        values, length = [1, 2, 4], 16
        for moves in [[(0, 1), (1, 0)], [(2, 4), (4, 2)], [(4, 2), (2, 4)], [(0, 1), (1, 14)], [(1, 14), (0, 1)],
                      [(2, 4), (4, 6)], [(4, 6), (2, 4)], [(0, 7), (1, 6), (2, 4), (4, 0)], [(8, 4), (4, 8)],
                      [(8, 0), (0, 8), (1, 9), (2, 10)], [(0, 14), (1, 0), (2, 12), (4, 2), (8, 4)],
                      [(0, 5), (4, 0), (1, 4)], [(4, 6)], [(0, 13)], []]:
            self.check_right(values, length, blocks, moves)

    def test_a_ring_of_many(self):
        values, length = [1, 2], 400
        blocks = [(address, 1, False) for address in range(0, 400, 2)]
        moves = [(address, (address + 2) % 400) for address in range(0, 400, 2)]
        self.same(self.check_right(values, length, blocks, moves).blocks(), blocks)
        self.check_wrong(values, length, blocks, moves[:-1], 198)
        self.check_wrong(values, length, blocks, moves[1:], 198)
        self.check_wrong(values, length, blocks, moves[:100] + moves[101:], 99)
        self.check_wrong(values, length, blocks, moves + [(0, 2)], 200)

    def test_pins_stay(self):
        after = self.check_right([1, 2], 8, [(0, 1, True), (2, 1, False)], [(2, 6)])
        self.same(after.blocks(), [(0, 1, True), (6, 1, False)])
        self.check_wrong([1, 2], 8, [(0, 1, True), (2, 1, False)], [(0, 4)], 0)
        self.check_wrong([1, 2], 8, [(0, 1, True), (2, 1, False)], [(2, 4), (0, 6)], 1)

    def test_values_that_are_no_lists(self):
        blocks = [(1, 0, False), (3, 0, False)]
        for value in NO_LISTS + [((1, 7),), ((1, 7), (3, 5)), (1, 7), {1: 7}]:
            self.check_wrong([1, 2], 8, blocks, value, 0)

    def test_elements_that_are_no_moves(self):
        values, length, blocks = [1, 2], 8, [(1, 0, False), (3, 0, False), (4, 1, False)]
        for wrong in NO_MOVES:
            self.check_wrong(values, length, blocks, [wrong], 0)
            self.check_wrong(values, length, blocks, [(3, 2), wrong], 1)
            self.check_wrong(values, length, blocks, [(3, 2), (4, 6), wrong, None, (1, 0)], 2)

    def test_old_addresses(self):
        values, length = [1, 2, 4], 16
        blocks = [(0, 0, False), (2, 1, True), (4, 2, False), (12, 1, False)]
        for wrong in [(1, 9), (2, 10), (5, 9), (13, 9), (16, 9), (TRILLION, 9), (10 ** 30, 9), (3, 9)]:
            self.check_wrong(values, length, blocks, [wrong], 0)
            self.check_wrong(values, length, blocks, [(12, 14), (0, 1), wrong], 2)
        self.check_wrong(values, length, blocks, [(0, 1), (0, 8)], 1)
        self.check_wrong(values, length, blocks, [(0, 1), (12, 14), (0, 1)], 2)
        self.check_wrong(values, length, blocks, [(0, 1), (1, 8)], 1)

    def test_new_addresses(self):
        values, length = [1, 2, 4], 15
        blocks = [(0, 0, False), (4, 2, False), (12, 1, False)]
        for wrong in [(4, 2), (4, 6), (4, 12), (4, 16), (12, 9), (12, 14), (12, 15), (12, 10 ** 30), (0, 15)]:
            self.check_wrong(values, length, blocks, [wrong], 0)
            others = [move for move in [(0, 1), (12, 2)] if move[0] != wrong[0]]
            self.check_wrong(values, length, blocks, others + [wrong], len(others))

    def test_blocks_that_are_not_disjoint_afterwards(self):
        values, length = [1, 2, 4, 8], 24
        blocks = [(0, 2, False), (4, 1, False), (6, 0, False), (9, 0, True), (16, 1, False)]
        for moves, position in [([(6, 9)], 0), ([(4, 8)], 0), ([(0, 8)], 0), ([(6, 2)], 0), ([(6, 17)], 0),
                                ([(16, 12), (6, 13)], 0), ([(6, 7), (16, 12), (4, 12)], 1),
                                ([(0, 20), (6, 21), (4, 22)], 0), ([(6, 21), (4, 22), (0, 20)], 0),
                                ([(6, 7), (4, 22), (0, 20)], 1), ([(6, 7), (4, 14), (0, 8)], 2),
                                ([(4, 0), (0, 4)], 1), ([(4, 0), (0, 4), (6, 5)], 1), ([(16, 2), (0, 12), (4, 2)], 0)]:
            self.same(plain.wrong_move(values, length, blocks, moves), position)
            self.check_wrong(values, length, blocks, moves, position)

    def test_a_wrong_element_comes_before_blocks_that_meet(self):
        values, length, blocks = [1, 2], 8, [(0, 0, False), (1, 0, False), (2, 0, True)]
        self.check_wrong(values, length, blocks, [(0, 2), (1, 2)], 0)
        self.check_wrong(values, length, blocks, [(0, 2), (1, 2), (2, 5)], 2)
        self.check_wrong(values, length, blocks, [(0, 2), (1, 8)], 1)
        self.check_wrong(values, length, blocks, [(0, 1), (1, True)], 1)
        self.check_wrong(values, length, blocks, [(0, 1), [1, 0]], 1)

    def test_all_pairs_of_moves_in_tiny_layouts(self):
        right = wrong = 0
        for values, length, blocks in plain.tiny_layouts(step=199):
            olds = [block[0] for block in blocks] or [0]
            for old in olds:
                for new in range(length + 1):
                    self.check(values, length, blocks, [(old, new)])
                    for other in olds:
                        for other_new in range(0, length + 1, 2):
                            found = self.check(values, length, blocks, [(old, new), (other, other_new)])
                            right += found
                            wrong += not found
        self.assertTrue(right > 100 and wrong > 1000)

    def test_many_moves_in_medium_layouts(self):
        source = random.Random(41)
        right = 0
        for values, length, blocks in plain.medium_layouts(43, 40):
            starts = [(address, level) for address, level, is_pinned in blocks if not is_pinned]
            source.shuffle(starts)
            moves = []
            for old, level in starts:
                # A move that keeps the list right is kept more often than one that does not.
                new = source.choice(plain.regions(values, length, level))
                if plain.wrong_move(values, length, blocks, moves + [(old, new)]) is None or source.random() < 0.05:
                    moves.append((old, new))
            right += self.check(values, length, blocks, moves) and len(moves) > 1
        self.assertTrue(right > 20)

    def test_far_layouts(self):
        million = 10 ** 6
        values = [1, million, 10 ** 9]
        blocks = [(0, 2, False), (5 * 10 ** 9, 1, False), (TRILLION - 1, 0, False), (10 ** 9, 0, True)]
        self.check_far(values, blocks, [(0, TRILLION - 2 * 10 ** 9), (TRILLION - 1, 7)], 10 ** 9 + 1, 2)
        self.check_far(values, blocks, [(5 * 10 ** 9, 3 * million), (0, 2 * 10 ** 9)], 10 ** 9 + million, 2)
        self.check_far(values, blocks, [(5 * 10 ** 9, 5 * 10 ** 9 + million)], million, 1)
        layout = plain.build(values, TRILLION, blocks)
        for moves, position in [([(0, 10 ** 9)], 0), ([(TRILLION - 1, 7)], 0), ([(0, TRILLION)], 0),
                                ([(TRILLION - 1, 2 * 10 ** 9), (5 * 10 ** 9, 2 * 10 ** 9)], 0)]:
            self.refused(InvalidMoves, {"position": position}, rearranged, layout, moves)

    def check_far(self, values, blocks, moves, cells, level):
        layout = plain.build(values, TRILLION, blocks)
        self.same(is_rearrangement(layout, moves), True)
        self.same(rearranged(layout, moves).blocks(), plain.blocks_after(blocks, moves))
        self.same([cost(layout, moves), moved_level(layout, moves)], [cells, level])

    def test_the_new_layout_is_independent(self):
        layout = plain.build([1, 2], 8, [(0, 1, False)])
        after = rearranged(layout, [])
        self.assertIs(after == layout, True)
        after.take_out(0)
        self.same(layout.blocks(), [(0, 1, False)])
        after = rearranged(layout, [(0, 2)])
        layout.take_out(0)
        self.same(after.blocks(), [(2, 1, False)])

    def test_queries_can_be_repeated(self):
        layout = plain.build([1, 2], 8, [(0, 1, False), (3, 0, False)])
        for _ in range(3):
            self.same(rearranged(layout, [(0, 2), (3, 0)]).blocks(), [(0, 0, False), (2, 1, False)])
            self.same([cost(layout, [(0, 4)]), moved_level(layout, [(3, 2)])], [2, 0])


class ListsOfMovesTest(Checks):

    def test_inverse(self):
        for moves, wanted in [([], []), ([(3, 5)], [(5, 3)]), ([(9, 1), (1, 9)], [(1, 9), (9, 1)]),
                              ([(1, 8), (2, 4), (3, 6)], [(4, 2), (6, 3), (8, 1)]),
                              ([(0, TRILLION), (5, 0)], [(0, 5), (TRILLION, 0)])]:
            before = repr(moves)
            self.same(inverse(moves), wanted)
            self.same(inverse(moves=moves), wanted)
            self.same(inverse(inverse(moves)), sorted(moves))
            self.assertEqual(repr(moves), before)

    def test_composed(self):
        for first, second, wanted in [
                ([], [], []), ([(1, 2)], [], [(1, 2)]), ([], [(4, 2), (1, 3)], [(1, 3), (4, 2)]),
                ([(1, 2)], [(2, 3)], [(1, 3)]), ([(1, 2)], [(3, 1)], [(1, 2), (3, 1)]),
                ([(1, 2), (2, 1)], [(1, 2), (2, 1)], []), ([(1, 2), (2, 3), (3, 1)], [(1, 2), (2, 3), (3, 1)],
                                                           [(1, 3), (2, 1), (3, 2)]),
                ([(5, 0), (0, 5)], [(5, 9)], [(0, 9), (5, 0)]), ([(8, 4)], [(4, 8), (0, 4)], [(0, 4)])]:
            before = repr([first, second])
            self.same(composed(first, second), wanted)
            self.same(composed(second=second, first=first), wanted)
            self.assertEqual(repr([first, second]), before)

    def random_moves(self, source, layout, values, length):
        """Return a rearrangement with several moves."""
        moves = []
        blocks = layout.blocks()
        for address, level, _ in source.sample(blocks, len(blocks)):
            move = (address, source.choice(plain.regions(values, length, level)))
            if is_rearrangement(layout, moves + [move]):
                moves.append(move)
        unpinned = [block for block in blocks if not block[2]]
        for one, other in zip(unpinned, unpinned[1:]):
            if one[1] == other[1] and one[0] not in dict(moves) and other[0] not in dict(moves):
                exchange = [(one[0], other[0]), (other[0], one[0])]
                moves += exchange if is_rearrangement(layout, moves + exchange) else []
        return moves

    def test_one_after_another_is_the_same_as_composed(self):
        source = random.Random(47)
        moved = 0
        for values, length, blocks in plain.medium_layouts(53, 25):
            layout = plain.build(values, length, blocks)
            first = self.random_moves(source, layout, values, length)
            between = rearranged(layout, first)
            second = self.random_moves(source, between, values, length)
            both = composed(first, second)
            self.same(both, sorted(both))
            self.same(rearranged(layout, both).blocks(), rearranged(between, second).blocks())
            self.same(rearranged(between, inverse(first)).blocks(), layout.blocks())
            self.same([composed(first, inverse(first)), composed(inverse(first), first)], [[], []])
            self.same([composed(first, []), composed([], second)], [sorted(first), sorted(second)])
            # Each single block ends where the two moves bring it.
            goals, onward = dict(first), dict(second)
            ends = {block[0]: onward.get(goals.get(block[0], block[0]), goals.get(block[0], block[0])) for block in blocks}
            self.same(both, sorted((old, new) for old, new in ends.items() if old != new))
            moved += len(both)
        self.assertTrue(moved > 300)

    def check_wrong(self, value, position):
        wanted = {"position": position}
        self.refused(InvalidMoves, wanted, inverse, value)
        self.refused(InvalidMoves, wanted, inverse, moves=value)
        for other in [[], [(1, 2)]]:
            self.refused(InvalidMoves, wanted, composed, value, other)
            self.refused(InvalidMoves, wanted, composed, other, value)
            self.refused(InvalidMoves, wanted, composed, second=value, first=other)

    def test_wrong_lists(self):
        for value in NO_LISTS + [((1, 7),), (1, 7), {1: 7}]:
            self.check_wrong(value, 0)
        for wrong in NO_MOVES:
            for before in [[], [(2, 3)], [(2, 3), (4, 0), (5, 9)]]:
                self.check_wrong(before + [wrong], len(before))
                self.check_wrong(before + [wrong, None, (2, 3)], len(before))

    def test_addresses_that_are_there_twice(self):
        self.check_wrong([(1, 7), (1, 5)], 1)
        self.check_wrong([(1, 7), (3, 7)], 1)
        self.check_wrong([(1, 7), (3, 5), (8, 9), (3, 6), (1, 2)], 3)
        self.check_wrong([(1, 7), (3, 5), (8, 9), (4, 5), (4, True)], 3)
        self.check_wrong([(1, 7), (1, 7)], 1)
        self.same(inverse([(1, 7), (7, 1)]), [(1, 7), (7, 1)])

    def test_the_first_list_is_checked_first(self):
        for wrong in [None, (1,), "a", {}, [True], [(1, 1)]]:
            self.refused(InvalidMoves, {"position": 2}, composed, [(1, 2), (2, 3), None], wrong)
            self.refused(InvalidMoves, {"position": 1}, composed, [(1, 2), (1, 3)], wrong)
        self.refused(InvalidMoves, {"position": 0}, composed, (), [(1, 2), None])

    def test_returned_lists_are_new(self):
        moves = [(1, 2), (3, 4)]
        composed(moves, []).clear()
        composed([], moves).clear()
        inverse(moves).clear()
        self.same(moves, [(1, 2), (3, 4)])
        self.same(inverse(moves), [(2, 1), (4, 3)])


class CheapestRegionTest(Checks):

    def wanted(self, values, length, blocks, level):
        found = []
        for address in plain.regions(values, length, level):
            inside = plain.overlapping(values, (address, level), blocks)
            if not any(block[2] or block[1] >= level for block in inside):
                found.append((sum(values[block[1]] for block in inside), address))
        return (min(found)[1], min(found)[0]) if found else None

    def check(self, values, length, blocks):
        layout = plain.build(values, length, blocks)
        before = repr(layout)
        for level in range(len(values)):
            self.same(cheapest_region(layout, level), self.wanted(values, length, blocks, level))
            self.same(cheapest_region(level=level, layout=layout), self.wanted(values, length, blocks, level))
        self.assertEqual(repr(layout), before)

    def test_tiny_layouts(self):
        for values, length, blocks in plain.tiny_layouts(step=3):
            self.check(values, length, blocks)

    def test_medium_layouts(self):
        for values, length, blocks in plain.medium_layouts(59, 60):
            self.check(values, length, blocks)

    def test_far_layouts(self):
        million = 10 ** 6
        layout = Layout(Sizes([1, million, 10 ** 9]), TRILLION - 1)
        self.same([cheapest_region(layout, level) for level in range(3)], [(0, 0), (0, 0), (0, 0)])
        for address in range(0, 999 * 10 ** 9, 5 * 10 ** 9):
            layout.put(2, address, pinned=address % 3 == 0)
        self.same([cheapest_region(layout, level) for level in range(3)], [(10 ** 9, 0)] * 3)
        layout = Layout(Sizes([1, 10 ** 9]), 5 * 10 ** 9 + 7)
        for at, address in enumerate([3, 10 ** 9, 2 * 10 ** 9 + 1, 3 * 10 ** 9 + 5, 4 * 10 ** 9, 5 * 10 ** 9]):
            layout.put(0, address, pinned=at in (1, 3))
            layout.put(0, address + 1)
        layout.put(0, 0)
        self.same([cheapest_region(layout, 0), cheapest_region(layout, 1)], [(1, 0), (2 * 10 ** 9, 2)])

    def test_no_region(self):
        layout = plain.build([1, 2, 4], 7, [(0, 0, True), (2, 1, False), (5, 0, True), (6, 0, False)])
        self.same([cheapest_region(layout, level) for level in range(3)], [(1, 0), None, None])
        self.same(cheapest_region(Layout(Sizes([1, 8]), 7), 1), None)
        self.same(cheapest_region(plain.build([1], 1, [(0, 0, False)]), 0), None)

    def test_wrong_levels(self):
        for layout in [plain.build([1, 2], 8, [(0, 0, False)]), plain.build([1, 2], 2, [(0, 1, True)])]:
            for value in no_levels(layout.sizes):
                self.refused_value(InvalidLevel, value, cheapest_region, layout, value)
                self.refused_value(InvalidLevel, value, cheapest_region, level=value, layout=layout)


if __name__ == "__main__":
    unittest.main()
