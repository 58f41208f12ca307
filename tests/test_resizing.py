"""Resizing objects, and making memories longer and shorter."""

import random
import unittest

from exactroom.errors import NoRoom, Pinned
from exactroom.memory import Memory
from exactroom.shared import Shared
from exactroom.sizes import Sizes
from tests import plain
from tests.checks import Checks
from tests.test_memory import eight, singles

TRILLION = 10 ** 12


def contents(memory, name):
    return [memory.read(name, index) for index in range(memory.cells(name))]


class ResizeTest(Checks):

    def test_contents_and_sequence(self):
        for old in range(1, 9):
            for new in range(1, 9):
                memory = Memory(Sizes([1, 2, 4, 8]), 16)
                for name, cells in [("a", 2), ("b", old), ("c", 3)]:
                    memory.request(name, cells)
                for index in range(old):
                    memory.write("b", index, index + 10)
                memory.write("a", 1, 5)
                memory.write("c", 2, 6)
                self.same(type(memory.resize("b", new)), list)
                self.same([memory.names(), memory.cells("b"), len(memory.addresses("b"))],
                          [["a", "b", "c"], new, len(plain.pieces([1, 2, 4, 8], new))])
                self.same(contents(memory, "b"), [index + 10 if index < old else 0 for index in range(new)])
                self.same([contents(memory, "a"), contents(memory, "c")], [[0, 5], [0, 0, 6]])

    def test_cut_contents_do_not_come_back(self):
        memory = eight(("a", 5))
        for index in range(5):
            memory.write("a", index, index + 1)
        memory.resize("a", 2)
        memory.resize("a", 6)
        self.same([contents(memory, "a"), list(memory.stored())], [[1, 2, 0, 0, 0, 0], [("a", 0, 1), ("a", 1, 2)]])

    def test_own_pieces_are_free(self):
        memory = eight(("a", 5), ("b", 2))
        self.same([memory.largest(), memory.resize("a", 6), memory.addresses("a"), memory.addresses("b")],
                  [1, [], [0, 4], [6]])
        self.refused(NoRoom, {"level": 0}, memory.resize, "a", 7)
        self.same([memory.cells("a"), memory.addresses("a")], [6, [0, 4]])

    def test_the_same_number_changes_nothing(self):
        memory = singles(8)
        memory.release("b")
        memory.release("a")
        memory.write("h", 0, 4)
        before = memory.clone()
        # The rule would choose another address for a new object.
        self.same([memory.resize("h", 1), memory == before, memory.addresses("h")], [[], True, [7]])
        # Also then the kept numbers must fit.
        self.same(memory.resize("h", 1, kept=[2]), [])
        self.refused(NoRoom, {"level": 0}, memory.resize, "h", 1, kept=[3])
        self.same([memory == before, memory.resize("h", 1, kept=(1, 1)), memory == before], [True, [], True])

    def test_moves_of_others(self):
        memory = singles(8)
        for name in "bdfh":
            memory.release(name)
        memory.write("c", 0, 3)
        memory.write("a", 0, 7)
        told = memory.resize("a", 4)
        self.assertTrue(0 < len(told) <= 3)
        self.assertTrue(all(name != "a" for name, _, _, _ in told))
        self.same([contents(memory, "a"), contents(memory, "c"), memory.names()],
                  [[7, 0, 0, 0], [3], ["a", "c", "e", "g"]])

    def test_pinned_objects(self):
        memory = eight(("a", 1), ("b", 1), ("c", 1))
        memory.pin("a")
        for cells in [1, 2, 5, 9, 10 ** 6]:
            self.refused(Pinned, {"name": "a"}, memory.resize, "a", cells)
        memory.release("c")
        self.same([memory.resize("b", 7), memory.addresses("b"), memory.addresses("a")], [[], [4, 2, 1], [0]])

    def test_with_pinned_others_in_the_way(self):
        memory = singles(8)
        for name in "cdefg":
            memory.release(name)
        memory.pin("b")
        memory.pin("h")
        self.refused(NoRoom, {"level": 2}, memory.resize, "a", 4)
        self.same([memory.resize("a", 3), memory.pins("b"), memory.addresses("b"), memory.addresses("h")],
                  [[], 1, [1], [7]])

    def test_fewer_cells_are_never_refused_if_the_kept_numbers_fit(self):
        source = random.Random(331)
        refused = 0
        for values, length, blocks in plain.medium_layouts(337, 8):
            memory = Memory(Sizes(values), length)
            for name in "abcdefghij":
                if memory.largest() > 0:
                    memory.request(name, source.randrange(1, min(memory.largest(), 12) + 1))
            for name in memory.names()[::4]:
                memory.pin(name)
            for name in memory.names()[1::4]:
                memory.release(name)
            kept = []
            while memory.largest(kept=kept) > 0 and len(kept) < 5:
                kept.append(source.randrange(1, memory.largest(kept=kept) + 1))
            for name in memory.names():
                if memory.pins(name) == 0:
                    for cells in range(1, memory.cells(name) + 1):
                        memory.clone().resize(name, cells, kept=kept)
                    with_more = [*kept, memory.largest(kept=kept) + 1]
                    self.refused(NoRoom, {"level": memory.layout().short_level(with_more)}, memory.clone().resize,
                                 name, memory.cells(name), kept=with_more)
                    refused += 1
        self.assertTrue(refused > 50)

    def test_far_resizing(self):
        memory = Memory(Sizes([1, 10 ** 6, 10 ** 9]), TRILLION)
        memory.request("a", 64 * 10 ** 9)
        memory.write("a", 64 * 10 ** 9 - 1, 1)
        memory.write("a", 3 * 10 ** 9, 2)
        self.same([memory.resize("a", 3 * 10 ** 9 + 1), list(memory.stored())], [[], [("a", 3 * 10 ** 9, 2)]])
        self.same([memory.addresses("a"), memory.address_of("a", 3 * 10 ** 9)],
                  [[0, 10 ** 9, 2 * 10 ** 9, 3 * 10 ** 9], 3 * 10 ** 9])
        memory.resize("a", 3 * 10 ** 9)
        self.same(list(memory.stored()), [])


class LengthTest(Checks):

    def test_longer(self):
        memory = eight(("a", 3), ("b", 1))
        memory.write("a", 2, 5)
        memory.pin("b")
        for length in [9, 16, 17, TRILLION]:
            self.same([memory.set_length(length), memory.capacity, memory.addresses("a"), memory.addresses("b")],
                      [[], length, [0, 2], [3]])
        self.same([memory.read("a", 2), memory.pins("b"), memory.largest(), memory.names()],
                  [5, 1, TRILLION - 4, ["a", "b"]])
        self.same(memory.layout().blocks(), [(0, 1, False), (2, 0, False), (3, 0, True)])
        self.same(memory.owner_of(TRILLION - 1), None)

    def test_longer_with_kept_numbers(self):
        memory = eight(("a", 6))
        self.refused(NoRoom, {"level": 0}, memory.set_length, 9, kept=[4])
        self.same(memory.capacity, 8)
        self.same([memory.set_length(10, kept=[4]), memory.capacity], [[], 10])
        # Now four cells are needed behind the first eight, where the object is in the way.
        memory.pin("a")
        self.refused(NoRoom, {"level": 2}, memory.set_length, 11, kept=[4])
        self.refused(NoRoom, {"level": 2}, memory.set_length, 15, kept=[4, 4])
        self.same([memory.set_length(16, kept=(4, 4)), memory.capacity], [[], 16])

    def test_the_same_length(self):
        memory = eight(("a", 6))
        before = memory.clone()
        self.same([memory.set_length(8), memory.set_length(8, kept=[2]), memory == before], [[], [], True])
        self.refused(NoRoom, {"level": 0}, memory.set_length, 8, kept=[3])

    def test_shorter_without_moves(self):
        memory = eight(("a", 3), ("b", 1))
        memory.pin("a")
        for length in [8, 7, 6, 5, 4]:
            self.same([memory.set_length(length), memory.capacity, memory.addresses("a")], [[], length, [0, 2]])
        self.refused(Pinned, {"name": "a"}, memory.set_length, 2)
        self.refused(NoRoom, {"level": 0}, memory.set_length, 3)
        self.same([memory.capacity, memory.layout().length, memory.largest()], [4, 4, 0])

    def test_shorter_with_moves(self):
        memory = singles(8)
        for name in "bcef":
            memory.release(name)
        memory.write("h", 0, 8)
        memory.pin("a")
        told = memory.set_length(4)
        self.same(told, sorted(told, key=lambda move: move[2]))
        self.same([[name for name, _, _, _ in told], [old for _, _, old, _ in told]], [["g", "h"], [6, 7]])
        self.same([memory.capacity, memory.names(), memory.read("h", 0), memory.pins("a")],
                  [4, ["a", "d", "g", "h"], 8, 1])
        self.same(sorted(memory.addresses("g") + memory.addresses("h")), [1, 2])

    def test_shorter_with_kept_numbers(self):
        memory = singles(8)
        for name in "bcef":
            memory.release(name)
        self.refused(NoRoom, {"level": 0}, memory.set_length, 4, kept=[1])
        self.same([memory.capacity, memory.addresses("h")], [8, [7]])
        told = memory.set_length(7, kept=[2, 1])
        self.same([len(told), memory.capacity, memory.largest(kept=[2, 1])], [1, 7, 0])
        # Nothing has to be moved here, but the kept numbers do not fit any more.
        memory = eight(("a", 2))
        self.same(memory.set_length(6, kept=[4]), [])
        self.refused(NoRoom, {"level": 0}, memory.set_length, 5, kept=[4])

    def test_large_regions_get_lost(self):
        memory = Memory(Sizes([1, 4]), 12)
        memory.request("a", 1)
        memory.pin("a")
        self.same(memory.set_length(12, kept=[4, 4]), [])
        # There are enough cells, but the last region of four cells has lost one.
        self.refused(NoRoom, {"level": 1}, memory.set_length, 11, kept=[4, 4])
        self.same([memory.capacity, memory.set_length(11, kept=[4, 3]), memory.capacity], [12, [], 11])
        memory.request("b", 4)
        self.refused(NoRoom, {"level": 1}, memory.set_length, 7)
        self.same([memory.addresses("b"), memory.set_length(8), memory.largest()], [[4], [], 3])

    def test_the_first_pinned_object_in_sequence(self):
        memory = singles(8)
        for name in "fehd":
            memory.pin(name)
        memory.release("a")
        memory.request("a", 1)
        memory.pin("a")
        self.refused(Pinned, {"name": "e"}, memory.set_length, 4)
        self.refused(Pinned, {"name": "f"}, memory.set_length, 5)
        self.refused(Pinned, {"name": "h"}, memory.set_length, 6)
        self.refused(Pinned, {"name": "d"}, memory.set_length, 1)
        # Pins count before missing room.
        self.refused(Pinned, {"name": "h"}, memory.set_length, 7, kept=[8])
        memory.unpin("h")
        self.refused(NoRoom, {"level": 0}, memory.set_length, 7)

    def test_a_pinned_object_with_one_piece_beyond(self):
        memory = Memory(Sizes([1, 2, 4]), 12)
        memory.request("x", 1)
        memory.request("a", 5)
        memory.pin("a")
        self.same(memory.addresses("a"), [4, 1])
        self.refused(Pinned, {"name": "a"}, memory.set_length, 7)
        self.same([memory.set_length(8), memory.capacity], [[], 8])

    def test_back_and_forth(self):
        source = random.Random(347)
        for shared in [False, True]:
            memory = (Shared if shared else Memory)(Sizes([1, 2, 4, 8]), 64)
            for name in "abcdefgh":
                memory.request(name, source.randrange(1, 9))
                memory.write(name, 0, ord(name))
            cells = sum(memory.cells(name) for name in memory.names())
            for _ in range(40):
                length = source.randrange(cells, 100)
                try:
                    memory.set_length(length)
                except NoRoom:
                    continue
                memory.settle()
                self.same([memory.capacity, [memory.read(name, 0) for name in memory.names()]],
                          [length, [ord(name) for name in "abcdefgh"]])
            self.same(memory.slack(0), memory.capacity - cells)


if __name__ == "__main__":
    unittest.main()
