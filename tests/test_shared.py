"""Shared memories: many calls of every kind against the plain model, and what reservations do."""

import random
import unittest

from exactroom.errors import NameTaken, NoReservation, NoRoom, Pinned
from exactroom.memory import Memory
from exactroom.shared import NO_OWNER, Shared
from exactroom.sizes import Sizes
from tests import far, walks
from tests.checks import Checks
from tests.test_memory import SMALL

TRILLION = 10 ** 12


def eight(*requests, length=8):
    """Return a shared memory with the sizes 1, 2, 4 and 8, after these requests."""
    shared = Shared(Sizes([1, 2, 4, 8]), length)
    for name, cells in requests:
        shared.request(name, cells)
    return shared


def scattered():
    """Return a shared memory of 8 cells with x at address 0 and y at 4."""
    shared = eight(("x", 1), ("f", 3), ("y", 1))
    shared.release("f")
    return shared


class WalkTest(Checks):

    def walk(self, seen, source, values, length, steps):
        """Make so many calls, with scattering in between, and add up what was seen."""
        walk = walks.Walk(self, values, length, shared=True)
        walk.check()
        for step in range(steps):
            if step % 15 == 5:
                walks.scatter(source, walk)
            walks.random_step(source, walk, length)
            largest = walk.model.largest(walk.model.kept())
            cells = min(TRILLION, source.choice([max(1, largest), largest + 1, largest + values[-1]]))
            self.same(walk.memory.pins_in_the_way(cells), walk.model.pins_in_the_way(cells))
            seen["in the way",] = seen.get(("in the way",), 0) + bool(walk.model.pins_in_the_way(cells))
            if step % 7 == 0 and not walk.model.is_far:
                walk.check_cells()
            self.check_copies(walk)
        for what, count in walk.seen.items():
            seen[what] = seen.get(what, 0) + count

    def check_copies(self, walk):
        """Check the plain memory and the copy of a shared memory."""
        memory, twin = walk.memory.plain(), walk.memory.clone()
        self.assertEqual((type(memory), type(twin)), (Memory, Shared))
        self.same([twin == walk.memory, memory == walk.memory, walk.memory == memory], [True, False, False])
        for name in walk.model.names():
            self.same([memory.addresses(name), memory.pins(name)], [twin.addresses(name), twin.pins(name)])
        self.same([list(memory.stored()), memory.names(), memory.layout(), memory.capacity],
                  [walk.model.stored(), walk.model.names(), twin.layout(), twin.capacity])
        self.same([memory.slack(level, kept=twin.kept) for level in range(len(walk.values))],
                  [twin.slack(level) for level in range(len(walk.values))])

    def test_small_memories(self):
        source = random.Random(401)
        seen = {}
        for values, length in SMALL:
            for _ in range(12):
                self.walk(seen, source, values, length, 60)
        for word, outcomes in {
                "request": ["granted", "moves", "NameTaken", "NoRoom", "TooManyPieces"],
                "request_all": ["granted", "NameTaken", "NoRoom"], "reserve": ["granted", "NoRoom"],
                "withdraw": ["granted", "NoReservation"], "release": ["granted", "UnknownName", "Pinned"],
                "resize": ["granted", "moves", "UnknownName", "Pinned", "NoRoom"],
                "set_length": ["granted", "moves", "Pinned", "NoRoom"], "settle": ["granted", "moves"],
                "pin": ["granted", "UnknownName", "NoRoom"], "unpin": ["granted", "UnknownName", "NotPinned"]}.items():
            for outcome in outcomes:
                self.assertTrue(seen.get((word, outcome), 0) > 1, (word, outcome))
        self.assertTrue(min(seen["used",], seen["pin", "NoRoom"]) > 50 and seen["in the way",] > 1)

    def test_far_memories(self):
        source = random.Random(409)
        seen = {}
        for values, length in far.FAR + far.TIGHT * 5:
            self.walk(seen, source, values, length, 50)
        for outcome in [("request", "moves"), ("used",), ("settle", "moves"), ("reserve", "NoRoom"),
                        ("pin", "NoRoom"), ("set_length", "NoRoom"), ("request_all", "NoRoom")]:
            self.assertTrue(seen.get(outcome, 0) > 1, outcome)


    def test_two_hundred_blocks(self):
        source = random.Random(411)
        for values, length in [([1, 2, 4, 8], 5000), ([1, 10 ** 6, 10 ** 9], TRILLION)]:
            walk = walks.Walk(self, values, length, shared=True)
            for at in range(20):
                walk.request(walks.NAMES[at], sum(source.choice(values) for _ in range(9)))
                walk.reserve(source.choice(walks.OWNERS), source.randrange(1, 6))
            while len(walk.model.blocks()) < 200:
                name = source.choice(walk.model.names())
                walk.resize(name, walk.model.objects[name].cells + values[-1])
            self.same(len(walk.memory.layout()), 200)
            for name in walk.model.names()[::3]:
                walk.pin(name)
            for name in walk.model.names()[1::3]:
                walk.release(name)
            walk.settle()
            for owner, cells in walk.model.reservations[::2]:
                walk.request(walks.new_name(source, walk), cells, owner=owner)
            for _ in range(30):
                walks.random_step(source, walk, length)


class ReservationTest(Checks):

    def test_equal_ones(self):
        shared = eight(length=16)
        for owner, cells in [("ann", 2), ("bo", 2), ("ann", 3), ("ann", 2), ("bo", 2)]:
            self.same(shared.reserve(owner, cells), None)
        self.same([shared.kept, shared.largest(), shared.slack(0)], [[2, 2, 3, 2, 2], 5, 5])
        self.same(shared.withdraw("ann", 2), None)
        self.same(shared.reservations(), [("bo", 2), ("ann", 3), ("ann", 2), ("bo", 2)])
        self.same(shared.withdraw("bo", 2), None)
        self.same(shared.reservations(), [("ann", 3), ("ann", 2), ("bo", 2)])
        self.refused(NoReservation, {"owner": "bo"}, shared.withdraw, "bo", 3)
        self.same([shared.withdraw("ann", 2), shared.withdraw("ann", 3), shared.withdraw("bo", 2), shared.kept],
                  [None, None, None, []])
        self.refused(NoReservation, {"owner": "ann"}, shared.withdraw, "ann", 2)

    def test_which_one_a_request_uses(self):
        shared = eight(length=16)
        for owner, cells in [("bo", 2), ("ann", 3), ("ann", 2), ("bo", 3), ("ann", 2)]:
            shared.reserve(owner, cells)
        self.same(shared.request("a", 2, owner="ann"), [])
        self.same(shared.reservations(), [("bo", 2), ("ann", 3), ("bo", 3), ("ann", 2)])
        # Another number, no owner, and an owner without reservations use none.
        self.same([shared.request("b", 1, owner="ann"), shared.request("c", 1, owner="cy"), shared.kept],
                  [[], [], [2, 3, 3, 2]])
        self.same([shared.largest(), shared.request("d", 2), shared.kept], [2, [], [2, 3, 3, 2]])
        for name, cells, owner in [("e", 2, ""), ("e", 2, "cy"), ("e", 1, "ann"), ("e", 3, "cy")]:
            self.refused(NoRoom, {"level": 0}, shared.request, name, cells, owner=owner)
        for name, cells, owner, left in [("e", 3, "bo", [2, 3, 2]), ("f", 2, "ann", [2, 3]), ("g", 3, "ann", [2]),
                                         ("h", 2, "bo", [])]:
            shared.request(name, cells, owner=owner)
            self.same(shared.kept, left)
        self.same([len(shared), shared.largest()], [8, 0])

    def test_refused_requests_use_nothing(self):
        shared = eight(("a", 1))
        shared.reserve("ann", 2)
        self.refused(NameTaken, {"name": "a"}, shared.request, "a", 2, owner="ann")
        self.same(shared.reservations(), [("ann", 2)])

    def test_reserved_numbers_are_refused_where_they_do_not_fit(self):
        shared = eight(("a", 1))
        shared.pin("a")
        shared.set_length(9)
        self.refused(NoRoom, {"level": 1}, shared.reserve, "ann", 8)
        shared.set_length(15)
        self.refused(NoRoom, {"level": 3}, shared.reserve, "ann", 8)
        shared.unpin("a")
        self.same([shared.reserve("ann", 8), shared.largest()], [None, 6])
        self.refused(NoRoom, {"level": 0}, shared.reserve, "ann", 7)
        self.refused(NoRoom, {"level": 3}, shared.pin, "a")

    def test_reserved_requests_are_never_refused(self):
        """Whatever is done in between, all reservations can be used, in any sequence."""
        source = random.Random(419)
        used = 0
        for values, length in SMALL * 5:
            walk = walks.Walk(self, values, length, shared=True)
            for _ in range(25):
                walks.random_step(source, walk, length)
            walks.scatter(source, walk)
            for name in walk.model.names()[::2]:
                walk.release(name)
            for owner in walks.OWNERS * 2:
                walk.reserve(owner, source.randrange(1, 4))
            shared = walk.memory.clone()
            for name in shared.names():
                if shared.pins(name) == 0:
                    for cells in range(shared.cells(name), 0, -1):
                        shared.resize(name, cells)
            at = 0
            while shared.reservations():
                owner, cells = source.choice(shared.reservations())
                before = shared.reservations()
                at += 1
                shared.request("new" + "abcdefghijklmnopqrstuvwxyz"[at % 26] * (1 + at // 26), cells, owner=owner)
                before.remove((owner, cells))
                self.same(shared.reservations(), before)
                used += 1
        self.assertTrue(used > 50)

    def test_settling_does_not_depend_on_reservations(self):
        shared, other = scattered(), scattered()
        other.reserve("ann", 4)
        other.reserve("bo", 2)
        self.same([shared.is_at_rest(), other.is_at_rest()], [False, False])
        self.same(shared.settle(), other.settle())
        self.same([shared.is_at_rest(), other.is_at_rest(), other.settle()], [True, True, []])

    def test_pins(self):
        shared = scattered()
        shared.reserve("ann", 4)
        other = shared.clone()
        # Which pin is refused depends on where the objects lie.
        self.same([shared.pin("x"), other.pin("y")], [1, 1])
        self.refused(NoRoom, {"level": 2}, shared.pin, "y")
        self.refused(NoRoom, {"level": 2}, other.pin, "x")
        shared.settle()
        self.same([shared.pin("y"), shared.largest()], [1, 2])

    def test_lengths(self):
        shared = scattered()
        shared.reserve("ann", 4)
        self.refused(NoRoom, {"level": 0}, shared.set_length, 5)
        self.same([len(shared.set_length(6)) <= 2, shared.capacity, shared.largest()], [True, 6, 0])
        self.same([shared.set_length(9), shared.reservations(), shared.largest()], [[], [("ann", 4)], 3])

    def test_resize(self):
        shared = eight(("x", 2), ("y", 2))
        shared.reserve("ann", 3)
        self.same([shared.resize("x", 3), shared.cells("x")], [[], 3])
        self.refused(NoRoom, {"level": 0}, shared.resize, "x", 4)
        self.same([shared.resize("x", 3), shared.resize("x", 1), shared.largest()], [[], [], 2])
        shared.pin("x")
        self.refused(Pinned, {"name": "x"}, shared.resize, "x", 1)


class RequestAllTest(Checks):

    def test_all_or_nothing(self):
        shared = eight(("x", 2))
        shared.reserve("ann", 2)
        before = shared.clone()
        self.refused(NoRoom, {"level": 0}, shared.request_all, [("a", 2), ("b", 2), ("c", 1)])
        self.same([shared == before, shared.names()], [True, ["x"]])
        self.same([shared.request_all([("a", 2), ("b", 2)]), shared.names(), shared.kept],
                  [[[], []], ["x", "a", "b"], [2]])

    def test_higher_levels(self):
        shared = scattered()
        shared.pin("x")
        shared.pin("y")
        self.refused(NoRoom, {"level": 1}, shared.request_all, [("a", 2), ("b", 2), ("c", 2)])
        self.refused(NoRoom, {"level": 2}, shared.request_all, [("a", 1), ("b", 4)])
        self.same(shared.request_all([("a", 3), ("b", 1), ("c", 2)]), [[], [], []])

    def test_no_reservation_is_used(self):
        shared = eight()
        shared.reserve("a", 2)
        shared.request_all([("a", 2), ("b", 2)])
        self.same(shared.reservations(), [("a", 2)])

    def test_any_sequence(self):
        source = random.Random(421)
        granted = refused = 0
        for values, length in SMALL * 8:
            shared = Shared(Sizes(values), length)
            for name in "abcdefgh":
                if shared.largest() > 0:
                    shared.request(name, source.randrange(1, min(4, shared.largest()) + 1))
            for name in shared.names()[::2]:
                shared.release(name)
            for name in shared.names()[::3]:
                shared.pin(name)
            requests = [("r" + letter, source.randrange(1, 7)) for letter in "abcd"]
            outcomes = []
            for turn in range(3):
                trial = shared.clone()
                try:
                    results = trial.request_all(requests)
                    self.same([trial.names(), len(results)], [shared.names() + [name for name, _ in requests], 4])
                    outcomes.append("granted")
                except NoRoom as error:
                    self.same(trial == shared, True)
                    outcomes.append(error.level)
                source.shuffle(requests)
            self.assertEqual(outcomes, outcomes[:1] * 3)
            granted += outcomes[0] == "granted"
            refused += outcomes[0] != "granted"
        self.assertTrue(granted > 10 and refused > 10)

    def test_forty_requests(self):
        shared = Shared(Sizes([1, 2, 4]), 100)
        requests = [("q" + chr(97 + at % 26) * (1 + at // 26), 2) for at in range(40)]
        passed = list(requests)
        self.same([shared.request_all(passed), len(shared), shared.largest()], [[[]] * 40, 40, 20])
        self.assertEqual(passed, requests)


class PinsInTheWayTest(Checks):

    def test_one_object_at_a_time(self):
        shared = scattered()
        shared.request("z", 1)
        shared.pin("x")
        shared.pin("y")
        shared.pin("y")
        self.same([shared.pins_in_the_way(cells) for cells in [1, 2, 3, 4, 5, 6, 8, 9]],
                  [[], [], [], ["x", "y"], ["x", "y"], [], [], []])
        shared.reserve("ann", 1)
        self.same([shared.pins_in_the_way(4), shared.pins_in_the_way(5)], [["x", "y"], []])
        shared.unpin("y")
        self.same([shared.pins_in_the_way(4), shared.pins_in_the_way(10 ** 12)], [["x", "y"], []])
        shared.unpin("y")
        self.same(shared.pins_in_the_way(4), [])

    def test_more_than_64_pieces(self):
        shared = Shared(Sizes([1, 2]), 300)
        shared.request("a", 1)
        shared.pin("a")
        self.same([shared.pins_in_the_way(298), shared.pins_in_the_way(299), shared.pins_in_the_way(300)], [[], [], []])

    def test_far_memories(self):
        half = 5 * 10 ** 8
        shared = Shared(Sizes([1, half, 2 * half]), 4 * half)
        shared.request_all([("x", half), ("f", half), ("y", half)])
        shared.release("f")
        shared.pin("x")
        shared.pin("y")
        self.same([shared.pins_in_the_way(cells) for cells in [half, 2 * half - 1, 2 * half, 2 * half + 1]],
                  [[], [], ["x", "y"], []])
        shared.set_length(TRILLION)
        self.same(shared.pins_in_the_way(TRILLION - 2 * half), ["x", "y"])

    def test_against_unpinning(self):
        source = random.Random(431)
        found = 0
        for values, length in SMALL * 6:
            shared = Shared(Sizes(values), length)
            for name in "abcdefghij":
                if shared.largest() > 0:
                    shared.request(name, source.randrange(1, min(3, shared.largest()) + 1))
            for name in shared.names()[::2]:
                shared.release(name)
            if shared.largest() > 2:
                shared.reserve("ann", source.randrange(1, 3))
            for name in shared.names():
                try:
                    shared.pin(name)
                except NoRoom:
                    continue
            before = shared.clone()
            for cells in range(1, length + 2):
                wanted = []
                if cells > shared.largest():
                    for name in shared.names():
                        trial = shared.clone()
                        while trial.pins(name) > 0:
                            trial.unpin(name)
                        if trial.layout().fits(cells, kept=trial.kept):
                            wanted.append(name)
                self.same(shared.pins_in_the_way(cells), wanted)
                found += len(wanted)
            self.same(shared == before, True)
        self.assertTrue(found > 50)


class ValueTest(Checks):

    def test_equality(self):
        shared = eight(("a", 3))
        shared.reserve("ann", 2)
        shared.reserve("bo", 1)
        twin = shared.clone()
        self.same([shared == twin, shared != twin], [True, False])
        twin.withdraw("ann", 2)
        self.same([shared == twin, twin == shared], [False, False])
        twin.reserve("ann", 2)
        # The sequence of the reservations counts.
        self.same([shared == twin, sorted(twin.reservations()) == shared.reservations()], [False, True])
        twin.withdraw("bo", 1)
        twin.reserve("bo", 1)
        self.same(shared == twin, True)
        for change in [lambda one: one.pin("a"), lambda one: one.write("a", 0, 1), lambda one: one.set_length(9),
                       lambda one: one.request("b", 1)]:
            change(twin)
            self.same([shared == twin, twin == shared, shared != twin], [False, False, True])
            change(shared)
            self.same(shared == twin, True)

    def test_memories_and_other_values(self):
        shared = eight(("a", 3))
        memory = Memory(Sizes([1, 2, 4, 8]), 8)
        memory.request("a", 3)
        for value in [memory, None, 0, repr(shared), [("a", 3)], {}, shared.layout(), shared.sizes, object()]:
            self.same([shared == value, value == shared, shared != value, value != shared],
                      [False, False, True, True])
        self.same([shared.plain() == memory, memory == shared.plain(), shared in [memory], memory in [shared]],
                  [True, True, False, False])
        self.assertTrue(isinstance(shared, Memory) and issubclass(Shared, Memory))
        self.same(Shared(Sizes([1]), 1) == Memory(Sizes([1]), 1), False)

    def test_repr(self):
        shared = eight(("a", 3), ("b", 1))
        self.assertEqual(repr(shared), "Shared(8, [('a', 3), ('b', 1)], [])")
        shared.reserve("ann", 2)
        shared.reserve("ann", 2)
        self.assertEqual(repr(shared), "Shared(8, [('a', 3), ('b', 1)], [('ann', 2), ('ann', 2)])")
        self.assertEqual(repr(Shared(Sizes([1]), TRILLION)), "Shared(1000000000000, [], [])")

    def test_independent_copies(self):
        shared = eight(("a", 3))
        shared.write("a", 1, 4)
        shared.reserve("ann", 2)
        twin, memory = shared.clone(), shared.plain()
        shared.reserve("bo", 1)
        shared.write("a", 1, 5)
        shared.resize("a", 2)
        self.same([twin.reservations(), twin.cells("a"), twin.read("a", 1), memory.cells("a"), memory.read("a", 1)],
                  [[("ann", 2)], 3, 4, 3, 4])
        twin.withdraw("ann", 2)
        memory.release("a")
        self.same([shared.reservations(), shared.names(), twin.names()], [[("ann", 2), ("bo", 1)], ["a"], ["a"]])
        self.same([memory.largest(), memory.request("z", 8)], [8, []])

    def test_returned_values_are_new(self):
        shared = eight(("a", 3))
        shared.reserve("ann", 2)
        shared.kept.clear()
        shared.kept.append(5)
        shared.reservations().clear()
        shared.names().clear()
        shared.addresses("a").clear()
        shared.layout().take_out(0)
        self.same([shared.kept, shared.reservations(), shared.names(), shared.addresses("a"), len(shared.layout())],
                  [[2], [("ann", 2)], ["a"], [0, 2], 2])
        self.assertIsNot(shared.kept, shared.kept)

    def test_properties(self):
        shared = eight(("a", 3))
        self.same([shared.sizes, shared.capacity, len(shared), NO_OWNER], [Sizes([1, 2, 4, 8]), 8, 1, ""])

    def test_arguments_by_name(self):
        shared = Shared(length=8, sizes=Sizes([1, 2, 4, 8]))
        shared.reserve(cells=2, owner="ann")
        self.same([shared.request(owner="ann", cells=2, name="a"), shared.request(cells=1, name="b"), shared.kept],
                  [[], [], []])
        self.same([shared.request_all(requests=[("c", 1)]), shared.resize(cells=2, name="c"), shared.pin(name="c")],
                  [[[]], [], 1])
        self.same([shared.set_length(length=9), shared.slack(level=0), shared.largest()], [[], 4, 4])
        self.same(shared.pins_in_the_way(cells=4), [])
        shared.reserve(owner="bo", cells=1)
        self.same([shared.withdraw(cells=1, owner="bo"), shared.unpin(name="c"), shared.release(name="c")],
                  [None, 0, None])
        self.same([shared.write(value=3, index=1, name="a"), shared.read(index=1, name="a")], [None, 3])
        self.same([shared.copy_cells(count=1, second=0, target="b", first=1, source="a"), shared.read("b", 0)],
                  [None, 3])
        self.same([shared.address_of(index=1, name="a"), shared.owner_of(address=1), shared.cells(name="a"),
                   shared.pins(name="a"), shared.addresses(name="b")], [1, ("a", 1), 2, 0, [2]])


if __name__ == "__main__":
    unittest.main()
