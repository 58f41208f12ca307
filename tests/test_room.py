"""Room for numbers of cells: against all arrangements, against the rule of the chosen addresses, and far away."""

import itertools
import random
import unittest

from exactroom.errors import InvalidNumber, NoRoom, TooManyPieces
from exactroom.layouts import Layout
from exactroom.moves import cost, is_rearrangement, moved_level, rearranged
from exactroom.rest import settling_moves
from exactroom.room import chosen_addresses, is_room, limit, room
from exactroom.sizes import Sizes
from tests import far, plain
from tests.checks import NO_CELLS, NO_INTEGERS, NO_LISTS, Checks, LayoutCase

TRILLION = 10 ** 12


def with_cells(values, blocks, cells, value):
    """Return the blocks after the moves of a room, with blocks for the pieces at its addresses."""
    moves, addresses = value
    new = [(address, level, False) for address, level in zip(addresses, plain.pieces(values, cells))]
    return sorted(plain.blocks_after(blocks, moves) + new)


class ExampleTest(LayoutCase):

    def test_limit(self):
        sizes = self.layout.sizes
        self.same([limit(sizes, 1), limit(sizes, 4), limit(sizes, 11)], [0, 8, 33])

    def test_chosen_addresses(self):
        layout = self.layout
        found = [chosen_addresses(layout, 1), chosen_addresses(layout, 2),
                 chosen_addresses(Layout(layout.sizes, 16), 11)]
        self.same(found, [[0], None, [0, 8, 10]])

    def test_room(self):
        layout = self.layout
        self.same([is_room(layout, 4, room(layout, 4)), room(layout, 1)], [True, ([], [0])])
        self.refused(NoRoom, {"level": 0}, room, layout, 5)

    def test_is_room(self):
        layout = self.layout
        found = [is_room(layout, 4, ([(1, 7), (3, 5)], [0])), is_room(layout, 4, ([], [0])),
                 is_room(layout, 1, ([], [2]))]
        self.same(found, [True, False, True])


class LimitTest(Checks):

    def test_limits(self):
        for values in [[1], [1, 2], [1, 2, 4, 8], [1, 10, 100], [1, 10 ** 6, 10 ** 9], [1, 10 ** 9]]:
            sizes = Sizes(values)
            for cells in list(range(1, 130)) + [10 ** 6 - 1, 10 ** 6, 10 ** 9 - 1, 10 ** 9, TRILLION]:
                level = max(at for at in range(len(values)) if values[at] <= cells)
                self.same(limit(sizes, cells), cells * level)
        self.same(limit(cells=9, sizes=Sizes([1, 3, 9])), 18)

    def test_wrong_numbers(self):
        for value in NO_CELLS:
            self.refused_value(InvalidNumber, value, limit, Sizes([1, 2]), value)
            self.refused_value(InvalidNumber, value, limit, cells=value, sizes=Sizes([1, 2]))


class ChosenAddressesTest(Checks):

    def check(self, values, length, blocks):
        layout = plain.build(values, length, blocks)
        before = repr(layout)
        for cells in range(1, length + 2):
            if len(plain.pieces(values, cells)) <= 64:
                wanted = plain.chosen_addresses(values, length, blocks, cells)
                self.same(chosen_addresses(layout, cells), wanted)
        self.assertEqual(repr(layout), before)

    def test_tiny_layouts(self):
        for values, length, blocks in plain.tiny_layouts(step=3):
            self.check(values, length, blocks)

    def test_medium_layouts(self):
        for values, length, blocks in plain.medium_layouts(61, 9):
            self.check(values, length, blocks)

    def test_they_are_there_whenever_free_regions_are(self):
        for values, length, blocks in plain.tiny_layouts(step=5):
            layout = plain.build(values, length, blocks)
            for cells in range(1, length + 1):
                wanted = plain.has_free_regions(values, length, blocks, cells)
                self.same(chosen_addresses(layout, cells) is not None, wanted)

    def test_the_smallest_region_that_is_large_enough(self):
        blocks = [(8, 0, False), (12, 1, False), (31, 0, False)]
        layout = plain.build([1, 2, 4, 8], 32, blocks)
        # The free regions have 8 cells at 0, 1 at 9, 2 at 10, 2 at 14, 8 at 16, 4 at 24, 2 at 28 and 1 at 30.
        found = [chosen_addresses(layout, cells) for cells in [1, 2, 3, 4, 5, 7, 8, 12, 23, 24, 28]]
        self.same(found, [[9], [10], [10, 9], [24], [24, 9], [24, 10, 9], [0], [0, 24], [0, 16, 24, 10, 9], None, None])

    def test_a_piece_may_lie_beside_an_earlier_one(self):
        layout = Layout(Sizes([1, 2, 4, 8]), 24)
        self.same([chosen_addresses(layout, cells) for cells in [7, 15, 24]], [[0, 4, 6], [0, 8, 12, 14], [0, 8, 16]])
        layout = plain.build([1, 3, 6], 12, [(0, 0, False)])
        self.same([chosen_addresses(layout, cells) for cells in [1, 3, 5, 11]], [[1], [3], [3, 1, 2], [6, 3, 1, 2]])

    def test_many_pieces(self):
        layout = Layout(Sizes([1, 2]), 300)
        self.same(chosen_addresses(layout, 128), list(range(0, 128, 2)))
        self.same(chosen_addresses(Layout(Sizes([1]), 64), 64), list(range(64)))
        self.same(chosen_addresses(Layout(Sizes([1]), 63), 64), None)

    def test_far_layouts(self):
        million = 10 ** 6
        layout = Layout(Sizes([1, million, 10 ** 9]), TRILLION - 1)
        self.same(chosen_addresses(layout, 2 * 10 ** 9 + million + 2), [0, 10 ** 9, 999 * 10 ** 9, TRILLION - million,
                                                                        TRILLION - million + 1])
        layout.put(0, 999 * 10 ** 9 + 5, pinned=True)
        self.same(chosen_addresses(layout, 3), [999 * 10 ** 9 + at for at in range(3)])
        self.same(chosen_addresses(layout, million), [999 * 10 ** 9 + million])

    def test_scaled_layouts(self):
        scale = 10 ** 6
        for values, length, blocks in plain.medium_layouts(67, 6):
            layout = plain.build([1] + [size * scale for size in values], length * scale,
                                 [(address * scale, level + 1, is_pinned) for address, level, is_pinned in blocks])
            for cells in range(1, length + 2):
                wanted = plain.chosen_addresses(values, length, blocks, cells)
                self.same(chosen_addresses(layout, cells * scale), wanted and [at * scale for at in wanted])


class RoomTest(Checks):

    def check(self, layout, values, length, blocks, cells):
        """Check a number that fits."""
        value = room(layout, cells)
        self.assertIs(type(value), tuple)
        self.assertEqual([type(part) for part in value], [list, list])
        self.assertTrue(plain.is_room(values, length, blocks, cells, value), (values, blocks, cells, value))
        self.assertTrue(far.is_room(values, length, blocks, plain.pieces(values, cells), value))
        self.same(is_room(layout, cells, value), True)
        chosen = plain.chosen_addresses(values, length, blocks, cells)
        if chosen is not None:
            self.same(value, ([], chosen))
        self.same(room(layout, cells), value)
        self.same(room(cells=cells, layout=layout), value)
        return value

    def test_tiny_layouts_against_all_arrangements(self):
        moved = 0
        for values, length, blocks in plain.tiny_layouts(step=3):
            layout = plain.build(values, length, blocks)
            before = repr(layout)
            for cells in range(1, length + 2):
                if plain.has_arrangement(values, length, blocks, [cells]):
                    moves, addresses = self.check(layout, values, length, blocks, cells)
                    moved += len(moves) > 0
                else:
                    level = plain.short_level(values, length, blocks, [cells])
                    self.refused(NoRoom, {"level": level}, room, layout, cells)
            self.assertEqual(repr(layout), before)
        self.assertTrue(moved > 300)

    def test_medium_layouts(self):
        moved = 0
        for values, length, blocks in plain.medium_layouts(71, 30):
            layout = plain.build(values, length, blocks)
            for cells in range(1, length + 2):
                level = plain.short_level(values, length, blocks, [cells])
                if level is None:
                    moves, addresses = self.check(layout, values, length, blocks, cells)
                    moved += len(moves) > 0
                else:
                    self.refused(NoRoom, {"level": level}, room, layout, cells)
        self.assertTrue(moved > 300)

    def test_request_after_request(self):
        source = random.Random(73)
        moved = 0
        for values, length in plain.MEDIUM:
            for at in range(16):
                blocks = plain.random_blocks(source, values, length, 4, 2 if at % 2 else 0)
                for _ in range(25):
                    layout = plain.build(values, length, blocks)
                    if layout.largest() == 0:
                        break
                    cells = min(source.randrange(1, layout.largest() + 1), source.choice([3, 7, length]))
                    value = self.check(layout, values, length, blocks, cells)
                    moved += len(value[0]) > 0
                    blocks = with_cells(values, blocks, cells, value)
                    unpinned = [block for block in blocks if not block[2]]
                    # Some blocks go away again, so that free cells are scattered.
                    gone = source.sample(unpinned, min(len(unpinned), source.randrange(4)))
                    blocks = [block for block in blocks if block not in gone]
        self.assertTrue(moved > 30, moved)

    def test_a_request_for_one_cell_moves_nothing(self):
        for values, length, blocks in plain.medium_layouts(79, 6):
            layout = plain.build(values, length, blocks)
            if layout.free > 0:
                moves, addresses = room(layout, 1)
                self.same([moves, len(addresses)], [[], 1])

    def test_blocks_make_way_for_blocks(self):
        # Four cells need a block of two cells to move, and that one needs a single cell to move.
        blocks = [(0, 1, False), (4, 0, False), (8, 2, False), (12, 2, True)]
        layout = plain.build([1, 2, 4], 16, blocks)
        self.same(room(layout, 4)[0] != [], True)
        self.check(layout, [1, 2, 4], 16, blocks, 4)
        blocks = [(0, 1, False), (5, 0, False), (6, 0, False), (10, 1, False)]
        layout = plain.build([1, 2, 4], 12, blocks)
        self.check(layout, [1, 2, 4], 12, blocks, 4)
        self.check(layout, [1, 2, 4], 12, blocks, 6)
        self.refused(NoRoom, {"level": 0}, room, layout, 7)

    def test_larger_blocks_and_pinned_ones_stay(self):
        for values, length, blocks in plain.medium_layouts(83, 12):
            layout = plain.build(values, length, blocks)
            for cells in range(1, layout.largest() + 1):
                moves, addresses = room(layout, cells)
                self.same(is_rearrangement(layout, moves), True)
                self.assertTrue(cost(layout, moves) <= limit(layout.sizes, cells))
                self.assertTrue(not moves or moved_level(layout, moves) < layout.sizes.level_of(cells))
                after = rearranged(layout, moves)
                for level, address in zip(layout.sizes.pieces(cells), addresses):
                    after.put(level, address)

    def test_whether_there_is_room_does_not_depend_on_the_place_of_unpinned_blocks(self):
        for values, length, blocks in plain.medium_layouts(89, 6):
            layout = plain.build(values, length, blocks)
            after = rearranged(layout, settling_moves(layout))
            for cells in range(1, length + 1):
                self.same(self.level_of_refusal(layout, cells), self.level_of_refusal(after, cells))

    def level_of_refusal(self, layout, cells):
        try:
            room(layout, cells)
        except NoRoom as error:
            return error.level
        return None

    def test_levels_of_refusals(self):
        layout = plain.build([1, 2, 4, 8], 16, [(1, 0, True), (9, 0, True), (12, 1, False)])
        for cells, level in [(4, None), (5, None), (7, None), (8, 3), (11, 3), (12, 1), (13, 0), (16, 0)]:
            self.same(self.level_of_refusal(layout, cells), level)
            self.same(layout.short_level([cells]), level)

    def test_sixty_four_and_sixty_five_pieces(self):
        blocks = [(address, 0, False) for address in range(0, 256, 2)]
        layout = plain.build([1, 2], 256, blocks)
        self.check_many(layout, [1, 2], 256, blocks, 128)
        self.refused(TooManyPieces, {"limit": 64}, room, layout, 129)
        self.refused(TooManyPieces, {"limit": 64}, is_room, layout, 129, None)
        self.refused(TooManyPieces, {"limit": 64}, chosen_addresses, layout, 129)
        blocks = blocks + [(1, 0, True)]
        layout = plain.build([1, 2], 256, blocks)
        self.refused(NoRoom, {"level": 0}, room, layout, 128)
        self.refused(TooManyPieces, {"limit": 64}, room, layout, 130)
        self.check_many(layout, [1, 2], 256, blocks, 127)
        # Even where all of it is free.
        self.refused(TooManyPieces, {"limit": 64}, room, Layout(Sizes([1]), 1000), 65)
        self.same(room(Layout(Sizes([1]), 1000), 64), ([], list(range(64))))

    def check_many(self, layout, values, length, blocks, cells):
        value = room(layout, cells)
        self.assertTrue(value[0] and far.is_room(values, length, blocks, plain.pieces(values, cells), value))
        self.same(is_room(layout, cells, value), True)

    def test_two_hundred_blocks(self):
        values = [1, 2, 4, 8, 16, 32, 64, 128]
        source = random.Random(97)
        for length, tries in [(1024, 200), (512, 300), (3000, 600)]:
            blocks = plain.random_blocks(source, values[:3], length, tries, 40)[:200]
            layout = plain.build(values, length, blocks)
            most = layout.largest()
            for cells in [most, most - 1, most // 2, min(most, 128), min(most, 200)]:
                if len(plain.pieces(values, cells)) <= 64:
                    value = room(layout, cells)
                    self.assertTrue(far.is_room(values, length, blocks, plain.pieces(values, cells), value))
                    self.same(is_room(layout, cells, value), True)

    def test_far_layouts(self):
        source = random.Random(101)
        for values, length in far.FAR:
            for _ in range(3):
                blocks = far.far_blocks(source, values, length)
                layout = plain.build(values, length, blocks)
                for cells in {1, values[-1], 3 * values[-1] + 1, values[len(values) // 2], layout.largest()}:
                    self.check_far(layout, values, length, blocks, cells)

    def check_far(self, layout, values, length, blocks, cells):
        if not 1 <= cells <= TRILLION or sum(layout.sizes.counts(cells)) > 64:
            return
        slacks = far.slacks(values, length, blocks)
        short = [level for level, size in enumerate(values) if slacks[level] < cells // size * size]
        if short:
            self.refused(NoRoom, {"level": short[0]}, room, layout, cells)
        else:
            value = room(layout, cells)
            self.assertTrue(far.is_room(values, length, blocks, layout.sizes.pieces(cells), value))
            self.same(is_room(layout, cells, value), True)

    def test_far_layouts_with_moves(self):
        million = 10 ** 6
        values, length = [1, million, 10 ** 9], 6 * 10 ** 9
        blocks = [(k * 10 ** 9 + 5 * million, 1, False) for k in range(1, 6)]
        blocks += [(k * 10 ** 9 + 9 * million + 1, 0, k > 3) for k in range(1, 6)] + [(0, 2, False)]
        layout = plain.build(values, length, blocks)
        for cells in [10 ** 9, 2 * 10 ** 9, 3 * 10 ** 9, 2 * 10 ** 9 + 61 * million + 1]:
            if layout.fits(cells):
                value = room(layout, cells)
                self.assertTrue(value[0] and far.is_room(values, length, blocks, layout.sizes.pieces(cells), value))
                self.same(is_room(layout, cells, value), True)
            else:
                self.refused(NoRoom, {"level": layout.short_level([cells])}, room, layout, cells)
        self.same([layout.fits(3 * 10 ** 9), layout.fits(4 * 10 ** 9)], [True, False])

    def test_the_returned_lists_are_new(self):
        layout = plain.build([1, 2], 4, [(0, 0, False), (2, 0, False)])
        moves, addresses = room(layout, 2)
        wanted = (list(moves), list(addresses))
        moves.clear()
        addresses.clear()
        self.same(room(layout, 2), wanted)
        chosen_addresses(layout, 1).clear()
        self.same(chosen_addresses(layout, 1), [1])


class IsRoomTest(Checks):

    def compare(self, layout, values, length, blocks, cells, value):
        wanted = plain.is_room(values, length, blocks, cells, value)
        before = repr(value)
        self.same(is_room(layout, cells, value), wanted)
        self.assertEqual(repr(value), before)
        return wanted

    def candidates(self, source, layout, values, length, blocks):
        """Return several lists of moves, right ones and wrong ones."""
        olds = [block[0] for block in blocks] + [source.randrange(length)]
        found = [[], settling_moves(layout)]
        for cells in range(1, layout.largest() + 1):
            found.append(room(layout, cells)[0])
        for _ in range(12):
            found.append([(source.choice(olds), source.randrange(length + 1)) for _ in range(source.randrange(1, 4))])
        return found

    def test_tiny_layouts(self):
        source = random.Random(103)
        right = wrong = 0
        for values, length, blocks in plain.tiny_layouts(step=61):
            layout = plain.build(values, length, blocks)
            for moves in self.candidates(source, layout, values, length, blocks):
                for cells in range(1, length + 1):
                    count = len(plain.pieces(values, cells))
                    places = list(itertools.product(range(length + 1), repeat=count)) if count < 3 else []
                    for _ in range(6):
                        places.append([source.randrange(length + 1) for _ in range(count + source.choice([-1, 0, 0, 1]))])
                    for addresses in source.sample(places, min(12, len(places))):
                        found = self.compare(layout, values, length, blocks, cells, (moves, list(addresses)))
                        right += found
                        wrong += not found
        self.assertTrue(right > 100 and wrong > 1000)

    def test_other_addresses_in_medium_layouts(self):
        source = random.Random(107)
        right = 0
        for values, length, blocks in plain.medium_layouts(109, 9):
            layout = plain.build(values, length, blocks)
            for cells in range(1, layout.largest() + 1):
                moves, addresses = room(layout, cells)
                self.same(self.compare(layout, values, length, blocks, cells, (moves, addresses)), True)
                for at in range(len(addresses)):
                    level = plain.pieces(values, cells)[at]
                    other = list(addresses)
                    other[at] = source.choice(plain.regions(values, length, level))
                    right += self.compare(layout, values, length, blocks, cells, (moves, other))
                self.compare(layout, values, length, blocks, cells, (moves, addresses[::-1]))
                self.compare(layout, values, length, blocks, cells, (moves[1:], addresses))
                self.compare(layout, values, length, blocks, cells, (moves[::-1], addresses))
        self.assertTrue(right > 100)

    def test_moves_that_are_not_needed(self):
        layout = plain.build([1, 2, 4], 12, [(0, 0, False), (8, 0, False), (10, 1, False)])
        self.same(is_room(layout, 4, ([], [4])), True)
        self.same(is_room(layout, 4, ([(0, 9)], [0])), False)
        self.same(is_room(layout, 4, ([(0, 1)], [4])), False)
        self.same(is_room(layout, 8, ([(0, 9)], [0, 4])), True)
        self.same(is_room(layout, 8, ([(0, 9)], [4, 0])), True)
        self.same(is_room(layout, 8, ([(0, 9)], [0, 0])), False)

    def test_levels_and_costs(self):
        layout = plain.build([1, 2, 4], 16, [(0, 0, False), (4, 1, False), (8, 2, False), (12, 0, False)])
        # The list of moves costs more than the limit, or moves a block that is as large as the piece.
        self.same(is_room(layout, 4, ([(0, 13)], [0])), True)
        self.same(is_room(layout, 4, ([(8, 0), (0, 8)], [8])), False)
        self.same(is_room(layout, 4, ([(0, 13), (12, 14)], [0])), True)
        self.same(is_room(layout, 4, ([(0, 13), (4, 14), (12, 12)], [0])), False)
        self.same(is_room(layout, 4, ([(0, 6), (4, 14), (12, 7)], [0])), True)
        self.same(is_room(layout, 4, ([(0, 13), (8, 0)], [8])), False)
        self.same(is_room(layout, 5, ([(0, 13), (8, 0)], [8, 14])), False)
        self.same(is_room(layout, 5, ([(0, 13)], [0, 14])), True)
        equal = plain.build([1, 2], 8, [(0, 0, False), (2, 0, True), (4, 1, False), (7, 0, False)])
        self.same([is_room(equal, 2, ([(0, 6)], [0])), is_room(equal, 2, ([(0, 3)], [0]))], [True, True])
        self.same([is_room(equal, 3, ([(0, 6)], [0, 3])), is_room(equal, 3, ([(0, 6), (4, 0)], [4, 3]))], [True, False])
        crowded = plain.build([1, 2], 12, [(address, 0, False) for address in range(0, 12, 2)])
        self.same(is_room(crowded, 2, ([(0, 3)], [0])), True)
        self.same(is_room(crowded, 2, ([(0, 3), (4, 5)], [0])), True)
        self.same(is_room(crowded, 2, ([(0, 3), (4, 5), (6, 7)], [0])), False)
        self.same(is_room(crowded, 3, ([(0, 3), (4, 5), (6, 7)], [0, 4])), True)

    def test_values_of_other_kinds(self):
        layout = plain.build([1, 2, 4], 8, [(0, 0, False), (4, 0, False)])
        right = ([(0, 5)], [0])
        self.same(is_room(layout, 4, right), True)
        self.same(is_room(value=right, cells=4, layout=layout), True)
        for value in NO_INTEGERS + [0, 1, [], list(right), (), right[:1], (*right, []), (right,), [right], {0: right},
                                    right[::-1], "ab", b"ab", ({}, []), ([], {}), ("", "")]:
            self.same(is_room(layout, 4, value), False)
        for wrong in NO_LISTS + [tuple(right[0]), {0: 5}]:
            self.same(is_room(layout, 4, (wrong, [0])), False)
        for wrong in NO_LISTS + [(0,), {0: 0}, [], [0, 0], [[0]], [(0,)], [None], [4], [1], [2], [-4], [8], [10 ** 30]]:
            self.same(is_room(layout, 4, ([(0, 5)], wrong)), False)
        for wrong in NO_INTEGERS + [-1, -4, 8, 4, 10 ** 30]:
            self.same(is_room(layout, 4, ([(0, 5)], [wrong])), False)
            self.same(is_room(layout, 1, ([], [wrong])), False)
            self.same(is_room(layout, 4, ([(wrong, 5)], [0])), False)
            self.same(is_room(layout, 4, ([(0, wrong)], [0])), False)
            self.same(is_room(layout, 4, ([(0, 5), wrong], [0])), False)
        self.assertEqual(repr(layout), "Layout(8, [(0, 0, False), (4, 0, False)])")

    def test_true_and_false_are_no_addresses(self):
        layout = plain.build([1, 2], 4, [(2, 1, False)])
        self.same([is_room(layout, 1, ([], [value])) for value in [0, 1, False, True]], [True, True, False, False])
        self.same([is_room(layout, 2, ([], [value])) for value in [0, False]], [True, False])


class WrongNumbersTest(Checks):

    def setUp(self):
        self.layouts = [plain.build([1, 2], 4, [(0, 0, False), (2, 0, False)]), plain.build([1], 1, [(0, 0, True)])]
        self.before = repr(self.layouts)

    def tearDown(self):
        self.assertEqual(repr(self.layouts), self.before)

    def test_wrong_numbers(self):
        for layout in self.layouts:
            for value in NO_CELLS:
                for call in [room, chosen_addresses]:
                    self.refused_value(InvalidNumber, value, call, layout, value)
                    self.refused_value(InvalidNumber, value, call, cells=value, layout=layout)
                self.refused_value(InvalidNumber, value, is_room, layout, value, ([], [0]))
                for wrong in [True, None, -1, "a", [], (), {}, ([],), ([], [0])]:
                    self.refused_value(InvalidNumber, value, is_room, layout, value, wrong)
                    self.refused_value(InvalidNumber, value, lambda: is_room(value=wrong, cells=value, layout=layout))

    def test_too_many_pieces(self):
        wanted = {"limit": 64}
        for layout in self.layouts:
            for cells in [10 ** 3, 10 ** 6, TRILLION]:
                self.refused(TooManyPieces, wanted, room, layout, cells)
                self.refused(TooManyPieces, wanted, chosen_addresses, layout, cells)
                for value in [True, None, "a", [], ([], [0])]:
                    self.refused(TooManyPieces, wanted, is_room, layout, cells, value)

    def test_no_room(self):
        self.refused(NoRoom, {"level": 0}, room, self.layouts[0], 3)
        self.refused(NoRoom, {"level": 0}, room, self.layouts[0], 128)
        self.refused(NoRoom, {"level": 0}, room, self.layouts[1], 1)
        self.same([chosen_addresses(self.layouts[0], 128), chosen_addresses(self.layouts[1], 1)], [None, None])
        self.same([is_room(self.layouts[0], 128, ([], [])), is_room(self.layouts[1], 1, ([], [0]))], [False, False])


if __name__ == "__main__":
    unittest.main()
