"""Journals: operations and their results, undoing against copies, and cells against a plain record of all times."""

import random
import unittest

from exactroom.errors import InvalidAddress, InvalidCount, InvalidIndex, InvalidName, InvalidNumber, InvalidOperation
from exactroom.errors import InvalidValue, NameTaken, NoReservation, NoRoom, NotPinned, Pinned, TooManyPieces
from exactroom.errors import UnknownName, UnknownTime
from exactroom.journal import Journal
from exactroom.shared import Shared
from exactroom.sizes import Sizes
from tests.checks import NO_ADDRESSES, NO_CELLS, NO_INTEGERS, NO_LISTS, NO_NAMES, Checks
from tests.record import Record, directly, outcome, random_operation

TRILLION = 10 ** 12
SMALL = [([1, 2, 4, 8], 19), ([1, 3, 6], 20), ([1], 7), ([1, 2, 4], 12)]
WORDS = {"request": 4, "release": 2, "resize": 3, "write": 4, "pin": 2, "unpin": 2, "reserve": 3, "withdraw": 3,
         "settle": 1, "length": 2}


def journal_of(*operations, length=8):
    """Return a journal of a memory with the sizes 1, 2, 4 and 8, after these operations."""
    journal = Journal(Shared(Sizes([1, 2, 4, 8]), length))
    for operation in operations:
        journal.perform(operation)
    return journal


def request(name, cells, owner=""):
    return "request", name, cells, owner


class HistoryTest(Checks):

    def check_state(self, journal, record):
        """Check what the journal contains now."""
        time = len(record.operations)
        self.same([journal.time, len(journal), journal.operations()], [time, time, record.operations])
        self.assertTrue(journal.shared() == record.shared[-1])

    def check_cells(self, journal, record):
        """Check all addresses of all times."""
        now = record.shared[-1].capacity
        for time in range(len(record.operations) + 1):
            then = record.shared[time].capacity
            places, present = record.places(time), record.places(-1)
            self.same([journal.address_now(time, address) for address in range(then)],
                      [record.address_at(address, (places, present)) for address in range(then)])
            self.same([journal.address_then(time, address) for address in range(now)],
                      [record.address_at(address, (present, places)) for address in range(now)])
            for address in [-1, then, then + 1]:
                self.refused_value(InvalidAddress, address, journal.address_now, time, address)
            self.refused_value(InvalidAddress, now, journal.address_then, time, now)

    def check_undoing(self, journal, record):
        """Check undoing by every count, in copies."""
        time = len(record.operations)
        for count in range(time + 1):
            twin = journal.clone()
            self.same([twin.undo(count), twin.time, twin.operations()],
                      [time - count, time - count, record.operations[:time - count]])
            self.assertTrue(twin.shared() == record.shared[time - count])
        self.check_state(journal, record)

    def perform(self, journal, record, operation):
        """Perform an operation in the journal, and directly; both must do and say the same."""
        shared = record.shared[-1].clone()
        wanted = outcome(directly, shared, operation)
        before = journal.clone()
        self.assertEqual(outcome(journal.perform, operation), wanted)
        if wanted[0] == "returned":
            record.add(operation, shared)
        else:
            self.assertTrue(journal == before)
        self.check_state(journal, record)
        return wanted[0]

    def perform_all(self, journal, record, operations):
        """Perform several operations, all or none of them."""
        shared = record.shared[-1].clone()
        trials, results = [], []
        for operation in operations:
            result = outcome(directly, shared, operation)
            if result[0] != "returned":
                break
            trials.append((operation, shared.clone()))
            results.append(result[1])
        passed = list(operations)
        wanted = ("returned", results) if len(results) == len(operations) else result
        self.assertEqual(outcome(journal.perform_all, passed), wanted)
        self.assertEqual(passed, operations)
        if wanted[0] == "returned":
            for operation, state in trials:
                record.add(operation, state)
        self.check_state(journal, record)
        return wanted[0]

    def test_small_memories(self):
        source = random.Random(503)
        seen = {}
        for values, length in SMALL * 20:
            shared = Shared(Sizes(values), length)
            shared.request("first", 2)
            shared.reserve("ann", 1)
            journal, record = Journal(shared), Record(values, shared)
            for step in range(60):
                operation = random_operation(source, record.shared[-1], length)
                kind = self.perform(journal, record, operation)
                seen[operation[0], kind] = seen.get((operation[0], kind), 0) + 1
                if step % 9 == 4:
                    operations = [random_operation(source, record.shared[-1], length)
                                  for _ in range(source.randrange(4))]
                    kind = self.perform_all(journal, record, operations)
                    seen["all", kind == "returned"] = seen.get(("all", kind == "returned"), 0) + 1
                if step % 11 == 7:
                    count = source.randrange(min(7, journal.time + 1))
                    self.same(journal.undo(count), len(record.operations) - count)
                    record.undo(count)
                    self.check_state(journal, record)
                if step % 20 == 15:
                    self.check_cells(journal, record)
                    self.check_undoing(journal, record)
        for word in WORDS:
            self.assertTrue(seen[word, "returned"] > 10, word)
        self.assertTrue(seen["all", True] > 20 and seen["all", False] > 20)
        self.assertTrue(seen["request", NoRoom] > 5 and seen["resize", NoRoom] > 5 and seen["length", NoRoom] > 2)

    def test_two_hundred_operations(self):
        source = random.Random(509)
        shared = Shared(Sizes([1, 2, 4, 8]), 400)
        journal, record = Journal(shared), Record([1, 2, 4, 8], shared)
        while journal.time < 190:
            self.perform(journal, record, random_operation(source, record.shared[-1], 60))
        for time in range(0, 191, 19):
            for address in range(0, record.shared[time].capacity, 3):
                self.same(journal.address_now(time, address), record.address_now(time, address))
            for address in range(0, record.shared[-1].capacity, 3):
                self.same(journal.address_then(time, address), record.address_then(time, address))
        self.check_undoing(journal, record)
        self.same([journal.undo(190), journal.shared() == shared, journal.operations()], [0, True, []])


class OperationTest(Checks):

    def test_each_operation_and_its_result(self):
        journal = journal_of()
        for operation, result in [
                (request("a", 3), []), (("write", "a", 2, -7), None), (("pin", "a"), 1), (("pin", "a"), 2),
                (("unpin", "a"), 1), (("unpin", "a"), 0), (("reserve", "ann", 2), None), (request("b", 2, "ann"), []),
                (("reserve", "bo", 1), None), (("withdraw", "bo", 1), None), (("resize", "a", 4), []),
                (("release", "b"), None), (("settle",), []), (("length", 9), []), (("length", 8), [])]:
            before = journal.time
            self.same([journal.perform(operation), journal.time, journal.operations()[-1]],
                      [result, before + 1, operation])
        self.same([journal.shared().names(), journal.shared().cells("a"), journal.shared().reservations()],
                  [["a"], 4, []])

    def test_moves_are_returned(self):
        journal = journal_of(*[request(name, 1) for name in "abcdefgh"])
        for name in "bdfh":
            journal.perform(("release", name))
        told = journal.clone().perform(("settle",))
        self.assertTrue(len(told) >= 2 and all(len(move) == 4 for move in told))
        told = journal.clone().perform(("length", 4))
        self.same([move[0] for move in told], ["e", "g"])
        told = journal.perform(request("z", 4))
        self.assertTrue(0 < len(told) <= 2)
        told.clear()
        self.same(journal.shared().addresses("z"), journal.clone().shared().addresses("z"))

    def test_errors_of_the_methods(self):
        journal = journal_of(request("a", 3), request("p", 1), ("pin", "p"), ("reserve", "ann", 2))
        before = journal.clone()
        for operation, error, attributes in [
                (request("a", 1), NameTaken, {"name": "a"}), (request("A", 1), InvalidName, {"value": "A"}),
                (request("n", 0), InvalidNumber, {"value": 0}), (request("n", 1000), TooManyPieces, {"limit": 64}),
                (request("n", 1, "A"), InvalidName, {"value": "A"}), (request("n", 3), NoRoom, {"level": 0}),
                (("release", "n"), UnknownName, {"value": "n"}), (("release", "p"), Pinned, {"name": "p"}),
                (("resize", "p", 1), Pinned, {"name": "p"}), (("resize", "a", -1), InvalidNumber, {"value": -1}),
                (("resize", "a", 6), NoRoom, {"level": 0}), (("write", "n", 0, 0), UnknownName, {"value": "n"}),
                (("write", "a", 3, 0), InvalidIndex, {"value": 3}), (("write", "a", 0, ""), InvalidValue, {"value": ""}),
                (("pin", "n"), UnknownName, {"value": "n"}), (("unpin", "a"), NotPinned, {"name": "a"}),
                (("reserve", "ann", 3), NoRoom, {"level": 0}), (("reserve", "", 3), InvalidName, {"value": ""}),
                (("withdraw", "ann", 3), NoReservation, {"owner": "ann"}),
                (("withdraw", "ann", True), InvalidNumber, {"value": True}),
                (("length", 3), Pinned, {"name": "p"}), (("length", 5), NoRoom, {"level": 0}),
                (("length", False), InvalidNumber, {"value": False})]:
            self.refused(error, attributes, journal.perform, operation)
            self.refused(error, attributes, journal.perform_all, [request("x", 1), operation, ("settle",), 5])
            self.same([journal == before, journal.time, journal.shared() == before.shared()], [True, 4, True])

    def test_wrong_operations(self):
        journal = journal_of(request("a", 3))
        before = journal.clone()
        wrong = NO_INTEGERS + [0, 1, "settle", ["settle"], [("settle",)], {"settle": 1}, ("Settle",), ("settle ",)]
        wrong += [("set_length", 8), ("read", "a", 0), ("request_all", []), ("undo", 1), (["settle"],), (("settle",),)]
        wrong += [(value,) for value in NO_INTEGERS] + [(value, "a") for value in NO_INTEGERS]
        for word, parts in WORDS.items():
            for count in range(7):
                if count != parts:
                    wrong.append((word, "n", 1, "", "", "", "")[:count])
                    wrong.append((word, "a", 1, 1, 1, 1, 1)[:count])
            wrong.append([word, "n", 1, ""][:parts])
        for value in wrong:
            self.refused(InvalidOperation, {}, journal.perform, value)
            self.refused(InvalidOperation, {}, journal.perform, operation=value)
            self.refused(InvalidOperation, {}, journal.perform_all, [("settle",), value])
            self.same([journal == before, journal.time], [True, 1])

    def test_wrong_values_in_operations(self):
        journal = journal_of(request("a", 3))
        before = journal.clone()
        for value in NO_NAMES:
            for operation, error in [(("release", value), UnknownName), (("resize", value, 0), UnknownName),
                                     (("write", value, -1, ""), UnknownName), (("pin", value), UnknownName),
                                     (("unpin", value), UnknownName), (request(value, 0, 5), InvalidName),
                                     (("reserve", value, 0), InvalidName), (("withdraw", value, 0), InvalidName)]:
                self.refused_value(error, value, journal.perform, operation)
        for value in NO_CELLS:
            for operation in [request("n", value, 5), ("resize", "a", value), ("reserve", "ann", value),
                              ("withdraw", "ann", value), ("length", value)]:
                self.refused_value(InvalidNumber, value, journal.perform, operation)
        for value in NO_INTEGERS:
            self.refused_value(InvalidIndex, value, journal.perform, ("write", "a", value, None))
            self.refused_value(InvalidValue, value, journal.perform, ("write", "a", 0, value))
        self.same([journal == before, journal.time], [True, 1])

    def test_perform_all(self):
        journal = journal_of(request("a", 1))
        for value in NO_LISTS + [(("settle",),), ("settle",), "settle", {("settle",): 1}]:
            self.refused(InvalidOperation, {}, journal.perform_all, value)
        self.same([journal.perform_all([]), journal.time], [[], 1])
        operations = [("settle",), ("release", "a"), request("a", 2)]
        self.same([journal.perform_all(operations=operations), journal.time], [[[], None, []], 4])
        operations.clear()
        self.same(journal.operations(), [request("a", 1), ("settle",), ("release", "a"), request("a", 2)])
        # The first operation that raises an error decides, whatever the later ones are.
        self.refused(UnknownName, {"value": "x"}, journal.perform_all, [("pin", "a"), ("pin", "x"), 5, ("unpin", "y")])
        self.refused(InvalidOperation, {}, journal.perform_all, [("pin", "a"), 5, ("pin", "x")])
        self.same([journal.time, journal.shared().pins("a")], [4, 0])
        self.same([journal.undo(2), journal.shared().names()], [2, ["a"]])


class UndoTest(Checks):

    def test_counts(self):
        journal = journal_of(request("a", 1), request("b", 2), ("write", "b", 1, 5))
        before = journal.clone()
        for value in NO_INTEGERS + [-1, -3, 4, 5, 10 ** 30]:
            self.refused_value(InvalidCount, value, journal.undo, value)
            self.refused_value(InvalidCount, value, journal.undo, count=value)
        self.same([journal == before, journal.undo(0), journal == before], [True, 3, True])
        self.same([journal.undo(), journal.time, list(journal.shared().stored())], [2, 2, []])
        self.same([journal.undo(count=2), journal.shared().names(), journal.undo(0)], [0, [], 0])
        self.refused(InvalidCount, {"value": 1}, journal.undo)
        self.same(Journal(Shared(Sizes([1]), 1)).undo(0), 0)

    def test_everything_comes_back(self):
        journal = journal_of(*[request(name, 1) for name in "abcdefgh"], ("write", "g", 0, 7))
        for name in "bdfh":
            journal.perform(("release", name))
        before = journal.shared()
        for operation in [("settle",), request("z", 4), ("length", 4), ("length", 99), ("pin", "g"), ("reserve", "a", 4),
                          ("resize", "g", 3), ("release", "g"), ("write", "g", 0, 0)]:
            journal.perform(operation)
            self.same([journal.undo(), journal.shared() == before], [13, True])
            self.same([journal.shared().addresses(name) for name in "aceg"], [[0], [2], [4], [6]])

    def test_going_on_after_undoing(self):
        journal = journal_of(request("a", 1), request("b", 1), request("c", 1))
        journal.undo(2)
        self.same([journal.perform(request("d", 2)), journal.time, journal.shared().names(), journal.operations()],
                  [[], 2, ["a", "d"], [request("a", 1), request("d", 2)]])
        self.refused(UnknownTime, {"value": 3}, journal.address_now, 3, 0)
        self.same([journal.undo(2), len(journal.shared())], [0, 0])


class CellsTest(Checks):

    def test_released_and_new_objects(self):
        journal = journal_of(request("a", 2), request("b", 1), ("release", "a"), request("a", 2))
        # The new object lies where the old one was, but its cells are others.
        self.same(journal.shared().addresses("a"), [0])
        self.same([journal.address_now(time, 0) for time in range(5)], [None, None, None, None, 0])
        self.same([journal.address_then(time, 0) for time in range(5)], [None, None, None, None, 0])
        self.same([journal.address_now(time, 2) for time in range(5)], [None, None, 2, 2, 2])
        self.same([journal.address_then(time, 2) for time in range(5)], [None, None, 2, 2, 2])

    def test_resizing_down_and_up_again(self):
        journal = journal_of(request("a", 3), ("resize", "a", 1), ("resize", "a", 3))
        places = journal.shared()
        self.same([journal.address_now(1, address) for address in range(3)],
                  [places.address_of("a", 0), None, None])
        self.same([journal.address_then(1, places.address_of("a", index)) for index in range(3)], [0, None, None])
        self.same([journal.address_then(3, places.address_of("a", index)) for index in range(3)],
                  [places.address_of("a", index) for index in range(3)])

    def test_undoing_brings_cells_back(self):
        journal = journal_of(request("a", 3), ("resize", "a", 1), ("release", "a"))
        self.same([journal.address_now(1, 2), journal.address_now(2, 0)], [None, None])
        journal.undo()
        self.same([journal.address_now(1, 2), journal.address_now(1, 0)], [None, 0])
        journal.undo()
        self.same([journal.address_now(1, 2), journal.address_then(1, 2)], [2, 2])

    def test_moved_cells(self):
        journal = journal_of(*[request(name, 1) for name in "abcdefgh"])
        for name in "bdfh":
            journal.perform(("release", name))
        journal.perform(("settle",))
        shared = journal.shared()
        for name in "aceg":
            old, new = "abcdefgh".index(name), shared.addresses(name)[0]
            self.same([journal.address_now(8, old), journal.address_then(8, new), journal.address_now(13, new)],
                      [new, old, new])

    def test_lengths(self):
        journal = journal_of(request("a", 1), ("length", 20), ("length", 3), length=8)
        for time, length in [(0, 8), (1, 8), (2, 20), (3, 3)]:
            self.same(journal.address_now(time, length - 1), None)
            self.refused(InvalidAddress, {"value": length}, journal.address_now, time, length)
            self.same(journal.address_then(time, 2), None)
            self.refused(InvalidAddress, {"value": 3}, journal.address_then, time, 3)

    def test_wrong_times_and_addresses(self):
        journal = journal_of(request("a", 1), request("b", 1))
        before = journal.clone()
        for call in [journal.address_now, journal.address_then]:
            for time in NO_INTEGERS + [-1, 3, 4, 10 ** 30]:
                for address in [0, -1, 8, None]:
                    self.refused_value(UnknownTime, time, call, time, address)
                self.refused_value(UnknownTime, time, call, address=0, time=time)
            for address in NO_ADDRESSES + [8, 9, 10 ** 12]:
                self.refused_value(InvalidAddress, address, call, 2, address)
                self.refused_value(InvalidAddress, address, call, address=address, time=0)
            self.same([call(2, 1), call(address=0, time=1)], [1, 0])
        self.same(journal == before, True)

    def test_far_cells(self):
        billion = 10 ** 9
        journal = Journal(Shared(Sizes([1, billion // 2, billion]), TRILLION))
        half = billion // 2
        journal.perform_all([request("a", half), request("b", half), request("c", half), request("d", half)])
        journal.perform_all([("release", "a"), ("release", "d"), ("settle",), ("length", billion)])
        now = journal.shared()
        self.same(sorted(now.addresses("b") + now.addresses("c")), [0, half])
        for name, old in [("b", half), ("c", billion)]:
            for at in [0, 1, half - 1]:
                new = now.addresses(name)[0] + at
                self.same([journal.address_now(4, old + at), journal.address_then(4, new)], [new, old + at])
        self.same([journal.address_now(4, 0), journal.address_now(4, TRILLION - 1)], [None, None])
        self.same([journal.undo(8), journal.shared().capacity], [0, TRILLION])

    def test_cells_of_the_first_state(self):
        shared = Shared(Sizes([1, 2]), 6)
        shared.request("a", 3)
        journal = Journal(shared)
        self.same([journal.address_now(0, 2), journal.address_then(0, 2), journal.address_now(0, 3)], [2, 2, None])
        journal.perform(("resize", "a", 2))
        self.same([journal.address_now(0, 2), journal.address_now(0, 1)], [None, 1])


class ValueTest(Checks):

    def test_equality(self):
        journal = journal_of(request("a", 1), ("write", "a", 0, 5))
        self.same([journal == journal_of(request("a", 1), ("write", "a", 0, 5)), journal != journal.clone()],
                  [True, False])
        # Other operations with the same result, and another result of the same operations.
        other = journal_of(request("a", 1), ("write", "a", 0, 4), ("write", "a", 0, 5))
        self.same([journal == other, journal.shared() == other.shared()], [False, True])
        other = journal_of(request("a", 1), ("write", "a", 0, 5), length=9)
        self.same([journal == other, journal.operations() == other.operations()], [False, True])
        # What was before the first operation does not count.
        first, second = Shared(Sizes([1]), 4), Shared(Sizes([1]), 4)
        for shared, value in [(first, 1), (second, 2)]:
            shared.request("a", 1)
            shared.write("a", 0, value)
        self.same(Journal(first) == Journal(second), False)
        journals = [Journal(first), Journal(second)]
        for one in journals:
            one.perform(("write", "a", 0, 3))
        self.same(journals[0] == journals[1], True)

    def test_other_values(self):
        journal = journal_of(request("a", 1))
        for value in [None, 0, 1, [], journal.shared(), journal.operations(), "journal", object(), {}]:
            self.same([journal == value, value == journal, journal != value], [False, False, True])

    def test_the_given_memory_is_copied(self):
        shared = Shared(Sizes([1, 2]), 8)
        shared.request("a", 2)
        journal = Journal(shared=shared)
        shared.release("a")
        self.same([journal.shared().names(), journal.time], [["a"], 0])
        journal.perform(("release", "a"))
        journal.undo()
        self.same([journal.shared().names(), shared.names()], [["a"], []])

    def test_independent_copies(self):
        journal = journal_of(request("a", 2), ("write", "a", 0, 5))
        twin = journal.clone()
        journal.perform(("write", "a", 0, 6))
        twin.perform_all([("write", "a", 1, 7), ("release", "a")])
        self.same([journal.time, twin.time, journal.shared().read("a", 0), twin.shared().names()], [3, 4, 6, []])
        twin.undo(4)
        self.same([journal.time, journal.operations()[-1], twin.operations()], [3, ("write", "a", 0, 6), []])
        self.same([journal.undo(2), list(journal.shared().stored()), twin.time], [1, [], 0])

    def test_returned_values_are_new(self):
        journal = journal_of(request("a", 2))
        shared = journal.shared()
        shared.write("a", 0, 5)
        shared.release("a")
        journal.operations().clear()
        journal.operations().append(("settle",))
        self.same([journal.shared().names(), list(journal.shared().stored()), journal.operations()],
                  [["a"], [], [request("a", 2)]])
        self.assertIsNot(journal.shared(), journal.shared())
        self.assertIs(type(journal.shared()), Shared)

    def test_queries_repeat(self):
        journal = journal_of(request("a", 2), ("settle",))
        for _ in range(2):
            self.same([journal.time, len(journal), journal.address_now(1, 1), journal.address_then(1, 1),
                       journal.operations()], [2, 2, 1, 1, [request("a", 2), ("settle",)]])


if __name__ == "__main__":
    unittest.main()
