"""Memories: many calls of every kind against the plain model, and what single calls do."""

import random
import unittest

from exactroom.errors import InvalidCount, InvalidIndex, NameTaken, NoRoom, NotPinned, Pinned, UnknownName
from exactroom.memory import Memory
from exactroom.rest import is_at_rest
from exactroom.shared import Shared
from exactroom.sizes import Sizes
from tests import far, plain, walks
from tests.checks import Checks

SMALL = [([1, 2, 4, 8], 29), ([1, 2, 4], 24), ([1, 3, 6], 31), ([1, 2, 6, 12], 40), ([1, 5], 17), ([1], 9), ([1], 70)]
TRILLION = 10 ** 12


def eight(*requests):
    """Return a memory of 8 cells with the sizes 1, 2, 4 and 8, after these requests."""
    memory = Memory(Sizes([1, 2, 4, 8]), 8)
    for name, cells in requests:
        memory.request(name, cells)
    return memory


def singles(length, values=(1, 2, 4, 8)):
    """Return a memory that is full of objects of one cell: a at address 0, b at 1, and so on."""
    memory = Memory(Sizes(list(values)), length)
    for name in "abcdefghijklmnopqrstuvwx"[:length]:
        memory.request(name, 1)
    return memory


class WalkTest(Checks):

    def walk(self, seen, source, values, length, steps):
        """Make so many calls, with scattering in between, and add up what was seen."""
        walk = walks.Walk(self, values, length)
        walk.check()
        for step in range(steps):
            if step % 15 == 5:
                walks.scatter(source, walk)
            walks.random_step(source, walk, length)
            if step % 7 == 0 and not walk.model.is_far:
                walk.check_cells()
        for what, count in walk.seen.items():
            seen[what] = seen.get(what, 0) + count

    def test_small_memories(self):
        source = random.Random(301)
        seen = {}
        for values, length in SMALL:
            for _ in range(9):
                self.walk(seen, source, values, length, 60)
        for word, outcomes in {
                "request": ["granted", "moves", "NameTaken", "NoRoom", "TooManyPieces"],
                "release": ["granted", "UnknownName", "Pinned"],
                "resize": ["granted", "moves", "UnknownName", "Pinned", "NoRoom"],
                "set_length": ["granted", "moves", "Pinned", "NoRoom"], "settle": ["granted", "moves"],
                "pin": ["granted", "UnknownName", "NoRoom"], "unpin": ["granted", "UnknownName", "NotPinned"],
                "write": ["granted", "UnknownName", "InvalidIndex"], "read": ["granted", "UnknownName", "InvalidIndex"],
                "copy_cells": ["granted", "UnknownName", "InvalidIndex", "InvalidCount"]}.items():
            for outcome in outcomes:
                self.assertTrue(seen.get((word, outcome), 0) > 1, (word, outcome))
        self.assertTrue(seen["request", "moves"] > 40 and seen["request at rest",] > 400)

    def test_far_memories(self):
        source = random.Random(307)
        seen = {}
        for values, length in far.FAR + far.TIGHT * 3:
            self.walk(seen, source, values, length, 60)
        for outcome in [("request", "moves"), ("request", "TooManyPieces"), ("settle", "moves"), ("resize", "granted"),
                        ("set_length", "moves"), ("set_length", "NoRoom"), ("pin", "NoRoom")]:
            self.assertTrue(seen.get(outcome, 0) > 1, outcome)

    def test_two_hundred_blocks(self):
        source = random.Random(311)
        for values, length in [([1, 2, 4, 8], 5000), ([1, 10 ** 6, 10 ** 9], TRILLION)]:
            walk = walks.Walk(self, values, length)
            for at in range(28):
                walk.request(walks.NAMES[at], sum(source.choice(values) for _ in range(9)))
            while len(walk.model.blocks()) < 200:
                name = source.choice(walk.model.names())
                walk.resize(name, walk.model.objects[name].cells + values[-1])
            for name in walk.model.names()[::3]:
                walk.release(name)
            walk.settle()
            for _ in range(30):
                walks.random_step(source, walk, length)


class PlaceTest(Checks):
    """Where the unpinned objects lie decides neither whether a request is granted nor the level of NoRoom."""

    def disturb(self, source, memory):
        """Move unpinned objects without changing what they are and hold."""
        for _ in range(source.randrange(1, 8)):
            step = source.randrange(3)
            if step == 0 and memory.largest() > 0:
                memory.request("fill", min(source.randrange(1, memory.largest() + 1), 20))
                memory.release("fill")
            elif step == 1:
                memory.settle()
            else:
                name = source.choice([name for name in memory.names() if memory.pins(name) == 0])
                cells = memory.cells(name)
                self.outcome(memory.resize, name, cells + source.randrange(1, memory.largest() + 2))
                memory.resize(name, cells)

    def outcome(self, call, *parts, **more):
        try:
            call(*parts, **more)
        except NoRoom as error:
            return error.level
        return "granted"

    def test_same_decisions(self):
        source = random.Random(313)
        levels = set()
        differing = 0
        for values, length in SMALL * 6:
            memory = Memory(Sizes(values), length)
            for name in "abcdefghijkl":
                if memory.largest() > 0:
                    memory.request(name, source.randrange(1, min(memory.largest(), 5) + 1))
            for name in memory.names()[1::3]:
                memory.pin(name)
            for name in memory.names()[2::3]:
                memory.release(name)
            other = memory.clone()
            self.disturb(source, other)
            self.assertEqual([(name, memory.cells(name), memory.pins(name)) for name in memory.names()],
                             [(name, other.cells(name), other.pins(name)) for name in other.names()])
            differing += memory != other
            for cells in range(1, min(length + 2, 65)):
                kept = [source.randrange(1, 6)] * source.randrange(3)
                found = self.outcome(memory.clone().request, "new", cells, kept=kept)
                levels.add(found)
                self.assertEqual(self.outcome(other.clone().request, "new", cells, kept=kept), found)
                name = memory.names()[0]
                self.assertEqual(self.outcome(memory.clone().resize, name, cells, kept=kept),
                                 self.outcome(other.clone().resize, name, cells, kept=kept))
        self.assertTrue(differing > 15)
        self.assertEqual(levels, {"granted", 0, 1, 2, 3})


class ExactTest(Checks):

    def test_refused_exactly_if_no_arrangement_has_room(self):
        source = random.Random(315)
        counts = {True: 0, False: 0}
        for values, length in [([1, 2, 4], 9), ([1, 3], 8), ([1, 2, 4, 8], 10), ([1, 2, 6], 9)] * 6:
            memory = Memory(Sizes(values), length)
            for name in "abcdef":
                if memory.largest() > 0:
                    memory.request(name, source.randrange(1, min(memory.largest(), 3) + 1))
            for name in memory.names()[::2]:
                memory.release(name)
            for name in memory.names()[:1]:
                memory.pin(name)
            blocks = memory.layout().blocks()
            for cells in range(1, length + 1):
                for kept in [[], [1], [2], [source.randrange(1, 5), 1]]:
                    possible = plain.has_arrangement(values, length, blocks, [cells, *kept])
                    self.assertEqual(self.is_granted(memory.clone(), cells, kept), possible)
                    counts[possible] += 1
        self.assertTrue(min(counts.values()) > 100)

    def is_granted(self, memory, cells, kept):
        try:
            memory.request("new", cells, kept=kept)
        except NoRoom:
            return False
        return True


class RequestTest(Checks):

    def test_pieces_by_the_rule(self):
        memory = eight(("a", 3), ("b", 1))
        self.same([memory.addresses("a"), memory.addresses("b")], [[0, 2], [3]])
        self.same([memory.request("c", 3), memory.addresses("c"), memory.largest()], [[], [4, 6], 1])

    def test_one_cell_moves_nothing(self):
        memory = singles(8)
        memory.release("c")
        self.same([memory.request("z", 1), memory.addresses("z")], [[], [2]])
        self.refused(NoRoom, {"level": 0}, memory.request, "y", 1)

    def test_moves(self):
        memory = singles(8)
        for name in "bdeg":
            memory.release(name)
        memory.write("a", 0, 5)
        memory.write("h", 0, 6)
        told = memory.request("z", 4)
        self.assertTrue(0 < len(told) <= 2)
        self.same(told, sorted(told, key=lambda move: move[2]))
        for name, piece, old, new in told:
            self.same([piece, memory.addresses(name), "abcdefgh".index(name)], [0, [new], old])
        self.same([memory.read("a", 0), memory.read("h", 0), memory.largest()], [5, 6, 0])
        self.same(memory.names(), ["a", "c", "f", "h", "z"])

    def test_pinned_objects_stay(self):
        memory = singles(8)
        for name in "bdfh":
            memory.release(name)
        memory.pin("a")
        memory.pin("e")
        self.refused(NoRoom, {"level": 2}, memory.request, "z", 4)
        told = memory.request("y", 3)
        self.assertTrue(all(name not in ("a", "e") for name, _, _, _ in told))
        self.same([memory.addresses("a"), memory.addresses("e")], [[0], [4]])

    def test_kept_numbers(self):
        memory = eight(("a", 2))
        for kept in [[3], (3,), [1, 2], (2, 1), [1, 1, 1]]:
            self.same(memory.clone().request("b", 3, kept=kept), [])
            self.refused(NoRoom, {"level": 0}, memory.request, "b", 4, kept=kept)
        # Pinned in the first four cells, the object leaves one region of four cells, which cannot serve both.
        memory.set_length(10)
        self.same(memory.clone().request("b", 4, kept=[4]), [])
        memory.pin("a")
        self.refused(NoRoom, {"level": 2}, memory.request, "b", 4, kept=[4])
        self.same(memory.request("b", 4, kept=[3, 1]), [])

    def test_names_can_come_back(self):
        memory = eight(("a", 1), ("b", 1))
        memory.write("a", 0, 9)
        memory.release("a")
        memory.request("a", 1)
        self.same([memory.names(), memory.read("a", 0), memory.addresses("a")], [["b", "a"], 0, [0]])

    def test_at_most_64_pieces(self):
        memory = Memory(Sizes([1, 2]), 300)
        self.same(memory.request("a", 128), [])
        self.same([len(memory.addresses("a")), memory.addresses("a")[:3], memory.address_of("a", 127)],
                  [64, [0, 2, 4], 127])
        self.same(memory.largest(), 172)


class ReleaseAndPinTest(Checks):

    def test_releasing_moves_nothing(self):
        memory = eight(("a", 3), ("b", 1), ("c", 2))
        self.same(memory.release("a"), None)
        self.same([memory.names(), memory.addresses("b"), memory.addresses("c")], [["b", "c"], [3], [4]])
        self.same([len(memory), memory.layout().free], [2, 5])

    def test_pins_are_counted(self):
        memory = eight(("a", 3))
        self.same([memory.pin("a"), memory.pin("a"), memory.pin("a")], [1, 2, 3])
        self.same([memory.unpin("a"), memory.unpin("a"), memory.pins("a")], [2, 1, 1])
        self.refused(Pinned, {"name": "a"}, memory.release, "a")
        self.same(memory.layout().blocks(), [(0, 1, True), (2, 0, True)])
        self.same([memory.unpin("a"), memory.layout().blocks()], [0, [(0, 1, False), (2, 0, False)]])
        self.refused(NotPinned, {"name": "a"}, memory.unpin, "a")
        self.same(memory.release("a"), None)

    def test_pins_and_kept_numbers(self):
        memory = singles(8)
        for name in "bcdefgh":
            memory.release(name)
        self.same(memory.clone().pin("a", kept=[4, 3]), 1)
        self.refused(NoRoom, {"level": 0}, memory.pin, "a", kept=[4, 4])
        memory = singles(8)
        for name in "abcdefgh":
            if name not in "af":
                memory.release(name)
        # Where both are pinned, no region of four cells is clear.
        self.same(memory.pin("f", kept=[4]), 1)
        self.refused(NoRoom, {"level": 2}, memory.pin, "a", kept=(4,))
        self.same([memory.pins("a"), memory.layout().blocks()], [0, [(0, 0, False), (5, 0, True)]])
        self.same(memory.pin("a"), 1)
        # The slack afterwards counts, also if it is no less than before.
        self.refused(NoRoom, {"level": 2}, memory.pin, "a", kept=[4])
        self.same([memory.pin("a", kept=[3]), memory.pins("a")], [2, 2])

    def test_write_and_read_pinned_objects(self):
        memory = eight(("a", 2))
        memory.pin("a")
        memory.write("a", 1, 4)
        memory.copy_cells("a", 1, "a", 0, 1)
        self.same([memory.read("a", 0), memory.read("a", 1)], [4, 4])


class RestTest(Checks):

    def test_settling(self):
        memory = singles(8)
        for name in "bdfh":
            memory.release(name)
        memory.write("g", 0, 3)
        self.same([memory.is_at_rest(), is_at_rest(memory.layout())], [False, False])
        told = memory.settle()
        self.assertTrue(len(told) >= 2)
        self.same([memory.is_at_rest(), memory.settle(), memory.read("g", 0)], [True, [], 3])
        self.same([memory.request("z", 4), memory.is_at_rest()], [[], True])

    def test_no_request_and_no_pin_disturbs_rest(self):
        source = random.Random(317)
        for values, length in SMALL:
            memory = Memory(Sizes(values), length)
            for at in range(28):
                cells = memory.largest()
                if cells == 0:
                    break
                self.same(memory.request(walks.NAMES[at], source.randrange(1, min(cells, 9) + 1)), [])
                self.same(memory.is_at_rest(), True)
                if at % 3 == 1:
                    memory.pin(source.choice(memory.names()))
                    self.same(memory.is_at_rest(), True)
                if at % 5 == 4:
                    loose = [name for name in memory.names() if memory.pins(name) == 0]
                    memory.release(source.choice(loose))
                    memory.settle()


class CopyTest(Checks):

    def objects(self):
        memory = eight(("a", 5), ("b", 3))
        for index in range(5):
            memory.write("a", index, index + 1)
        memory.write("b", 1, 70)
        return memory

    def contents(self, memory, name):
        return [memory.read(name, index) for index in range(memory.cells(name))]

    def test_within_one_object(self):
        for first in range(6):
            for second in range(6):
                for count in range(6 - max(first, second)):
                    memory = self.objects()
                    wanted = [1, 2, 3, 4, 5]
                    wanted[second:second + count] = wanted[first:first + count]
                    self.same(memory.copy_cells("a", first, "a", second, count), None)
                    self.same([self.contents(memory, "a"), self.contents(memory, "b")], [wanted, [0, 70, 0]])

    def test_between_two_objects(self):
        for source, target in ["ab", "ba"]:
            memory = self.objects()
            old = [self.contents(memory, source), self.contents(memory, target)]
            for first in range(len(old[0]) + 1):
                for second in range(len(old[1]) + 1):
                    most = min(len(old[0]) - first, len(old[1]) - second)
                    for count in range(most + 1):
                        memory = self.objects()
                        wanted = list(old[1])
                        wanted[second:second + count] = old[0][first:first + count]
                        memory.copy_cells(source, first, target, second, count)
                        self.same([self.contents(memory, source), self.contents(memory, target)], [old[0], wanted])
                    self.refused(InvalidCount, {"value": most + 1}, memory.copy_cells, source, first, target, second,
                                 most + 1)

    def test_zeros_are_copied_too(self):
        memory = self.objects()
        memory.copy_cells("b", 0, "a", 0, 3)
        self.same([self.contents(memory, "a"), list(memory.stored())],
                  [[0, 70, 0, 4, 5], [("a", 1, 70), ("a", 3, 4), ("a", 4, 5), ("b", 1, 70)]])

    def test_trillions_of_cells(self):
        memory = Memory(Sizes([1, 10 ** 9]), TRILLION)
        half = 32 * 10 ** 9
        memory.request("a", half)
        memory.request("b", half)
        memory.write("a", half - 1, 8)
        memory.write("b", 5, 9)
        memory.copy_cells("a", 0, "b", 0, half)
        self.same(list(memory.stored()), [("a", half - 1, 8), ("b", half - 1, 8)])
        memory.copy_cells("a", 1, "a", 0, half - 1)
        self.same(list(memory.stored())[:2], [("a", half - 2, 8), ("a", half - 1, 8)])
        memory.copy_cells("b", 0, "a", half // 2, half // 2)
        self.same(list(memory.stored()), [("b", half - 1, 8)])
        self.refused(InvalidIndex, {"value": half + 1}, memory.copy_cells, "a", half + 1, "b", 0, 0)
        self.same(memory.copy_cells("a", half, "b", half, 0), None)


class StoredTest(Checks):

    def test_sequence(self):
        memory = eight(("b", 3), ("a", 2))
        for name, index, value in [("a", 1, 5), ("b", 2, -1), ("b", 0, 7), ("a", 0, 3), ("a", 0, 0)]:
            memory.write(name, index, value)
        self.same(list(memory.stored()), [("b", 0, 7), ("b", 2, -1), ("a", 1, 5)])
        memory.write("b", 0, 0)
        self.same(list(memory.stored()), [("b", 2, -1), ("a", 1, 5)])
        self.same(list(Memory(Sizes([1]), 1).stored()), [])

    def test_two_by_turns(self):
        for memory in [Memory(Sizes([1, 2]), 8), Shared(Sizes([1, 2]), 8)]:
            memory.request("a", 5)
            for index in range(5):
                memory.write("a", index, index * index + 1)
            first, second = memory.stored(), memory.stored()
            self.assertIsNot(iter(first), iter(second))
            found = [next(first), next(second), next(second), next(first), next(second)]
            self.same([row[1] for row in found], [0, 0, 1, 1, 2])
            self.same([len(list(first)), len(list(second)), list(first)], [3, 2, []])
            self.same(len(list(memory.stored())), 5)

    def test_a_change_in_between_does_not_disturb(self):
        memory = eight(("a", 2), ("b", 1))
        memory.write("a", 0, 1)
        memory.write("b", 0, 2)
        rows = memory.stored()
        next(rows)
        memory.write("a", 1, 3)
        memory.release("a")
        list(rows)
        self.same(list(memory.stored()), [("b", 0, 2)])


class ValueTest(Checks):

    def test_equality(self):
        memory = eight(("a", 3), ("b", 1))
        twin = eight(("a", 3), ("b", 1))
        self.same([memory == twin, memory != twin, memory == memory.clone()], [True, False, True])
        self.same([eight(("b", 1), ("a", 3)) == memory, eight(("a", 3)) == memory], [False, False])
        # The same objects at the same addresses, in another sequence.
        other = eight(("b", 3), ("a", 1))
        other.release("b")
        other.request("b", 3)
        turned = eight(("b", 3), ("a", 1))
        self.same([other.addresses("b"), other == turned, other.layout() == turned.layout()], [[0, 2], False, True])

    def test_what_makes_memories_different(self):
        changes = [lambda memory: memory.pin("a"), lambda memory: memory.write("a", 2, 1),
                   lambda memory: memory.set_length(9), lambda memory: memory.resize("b", 2),
                   lambda memory: memory.release("b")]
        for change in changes:
            memory = eight(("a", 3), ("b", 1))
            twin = memory.clone()
            change(twin)
            self.same([memory == twin, twin == memory, memory != twin], [False, False, True])
            change(memory)
            self.same([memory == twin, twin == memory, memory != twin], [True, True, False])
        twin = eight(("a", 3), ("b", 1))
        twin.pin("a")
        memory = twin.clone()
        memory.pin("a")
        self.same(memory == twin, False)
        twin = eight(("a", 3), ("b", 1))
        twin.write("a", 0, 4)
        twin.write("a", 0, 0)
        self.same(twin == eight(("a", 3), ("b", 1)), True)
        self.same(Memory(Sizes([1, 2]), 8) == Memory(Sizes([1, 4]), 8), False)
        # Exchanged addresses, so that all blocks are the same.
        twin = eight(("t", 1), ("a", 1))
        twin.release("t")
        twin.request("b", 1)
        other = eight(("a", 1), ("b", 1))
        self.same([twin == other, twin.names() == other.names(), twin.layout() == other.layout()], [False, True, True])
        # Other addresses.
        twin = eight(("a", 3), ("b", 1), ("c", 1))
        twin.release("b")
        other = eight(("a", 3), ("c", 1))
        self.same([twin == other, twin.names() == other.names()], [False, True])

    def test_other_values(self):
        memory = eight(("a", 3))
        for value in [None, 0, 8, "Memory(8, [('a', 3)])", [("a", 3)], {}, memory.layout(), Sizes([1]), object()]:
            self.same([memory == value, value == memory, memory != value], [False, False, True])

    def test_independent_copies(self):
        memory = eight(("a", 3), ("b", 1))
        memory.write("a", 0, 5)
        memory.pin("b")
        twin = memory.clone()
        self.assertIs(type(twin), Memory)
        memory.write("a", 1, 6)
        memory.resize("a", 2)
        memory.unpin("b")
        memory.release("b")
        memory.set_length(20)
        self.same([twin.names(), twin.cells("a"), twin.pins("b"), twin.capacity, list(twin.stored())],
                  [["a", "b"], 3, 1, 8, [("a", 0, 5)]])
        twin.write("a", 0, 1)
        twin.request("c", 2)
        self.same([memory.names(), list(memory.stored())], [["a"], [("a", 0, 5), ("a", 1, 6)]])

    def test_returned_values_are_new(self):
        memory = singles(8)
        for name in "bdeg":
            memory.release(name)
        before = memory.clone()
        memory.names().clear()
        memory.addresses("a").append(3)
        memory.layout().take_out(0)
        memory.layout().set_pinned(0, True)
        self.same([memory == before, memory.names(), memory.addresses("a"), len(memory.layout())],
                  [True, ["a", "c", "f", "h"], [0], 4])
        told = memory.request("z", 4)
        after = memory.clone()
        told.clear()
        memory.settle().append(1)
        self.same(memory == after, True)

    def test_arguments_are_not_changed_and_not_kept(self):
        memory = eight(("a", 2))
        kept = [1, 2]
        memory.request("b", 2, kept=kept)
        memory.resize("b", 3, kept=kept)
        memory.pin("b", kept=kept)
        memory.set_length(9, kept=kept)
        self.same([memory.slack(0, kept=kept), memory.largest(kept=kept), kept], [1, 1, [1, 2]])
        before, largest = memory.clone(), memory.largest()
        kept.append(5)
        values = [1, 2, 4, 8]
        other = Memory(Sizes(values), 8)
        values.append(16)
        self.same([memory == before, memory.largest(), len(other.sizes)], [True, largest, 4])

    def test_independent_objects(self):
        sizes = Sizes([1, 2, 4])
        first, second = Memory(sizes, 8), Memory(sizes, 8)
        first.request("a", 3)
        self.same([len(first), len(second), second.largest(), first.sizes == sizes], [1, 0, 8, True])

    def test_properties(self):
        memory = eight(("a", 3))
        self.same([memory.sizes, memory.capacity, len(memory), memory],
                  [Sizes([1, 2, 4, 8]), 8, 1, memory])
        self.assertEqual(repr(memory), "Memory(8, [('a', 3)])")
        self.assertEqual(repr(Memory(Sizes([1]), TRILLION)), "Memory(1000000000000, [])")

    def test_queries_repeat(self):
        memory = singles(8)
        for name in "bdeg":
            memory.release(name)
        before = memory.clone()
        for _ in range(2):
            self.same([memory.slack(2), memory.largest(kept=(1,)), memory.is_at_rest(), memory.owner_of(2),
                       list(memory.stored()), memory.pins("a")], [8, 3, False, ("c", 0), [], 0])
        self.same(memory == before, True)

    def test_unknown_and_taken_names(self):
        memory = eight(("a", 1))
        self.refused(NameTaken, {"name": "a"}, memory.request, "a", 2)
        self.refused(UnknownName, {"value": "b"}, memory.cells, "b")
        memory.release("a")
        self.refused(UnknownName, {"value": "a"}, memory.read, "a", 0)


if __name__ == "__main__":
    unittest.main()
