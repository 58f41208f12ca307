"""Wrong values in each place where memories and shared memories name an error, alone and several at once."""

import unittest

from exactroom.errors import InvalidAddress, InvalidCount, InvalidIndex, InvalidLevel, InvalidName, InvalidNumber
from exactroom.errors import InvalidNumbers, InvalidRequests, InvalidValue, NameTaken, NoReservation, NoRoom, NotPinned
from exactroom.errors import Pinned, TooManyPieces, UnknownName
from exactroom.memory import Memory
from exactroom.shared import NO_OWNER, Shared
from exactroom.sizes import Sizes
from tests.checks import NO_ADDRESSES, NO_CELLS, NO_INTEGERS, NO_LISTS, NO_NAMES, Checks, Faults, no_levels, value_of

UNKNOWN = NO_NAMES + ["zz", "ab", "aa"]
NO_INDEXES = NO_INTEGERS + [-1, -2, 10 ** 12, 10 ** 30]
# Values that are no list or tuple of numbers of cells, with the position that the error tells.
NO_KEPT = [(value, 0) for value in NO_LISTS if not isinstance(value, tuple)]
NO_KEPT += [([value], 0) for value in NO_CELLS] + [((2, value), 1) for value in NO_CELLS]
NO_KEPT += [([1, 2, 0, True], 2), ((1, 10 ** 12, None, 0, -1), 2), ([[1]], 0), ([(1,)], 0), ([1, [2]], 1)]


def name_of(value):
    return {"name": value}


class ValuesCase(Checks):
    """A memory of 8 cells with a of 3 cells, b of one and p of one, which is pinned; 3 cells are free."""

    def filled(self, memory):
        for name, cells in [("a", 3), ("b", 1), ("p", 1)]:
            memory.request(name, cells)
        memory.write("a", 0, 5)
        memory.write("p", 0, -5)
        memory.pin("p")
        return memory

    def faults(self, call, by_name=(), **good):
        return Faults(self, call, good, lambda: (self.memory.clone(), repr(self.memory), self.memory.layout()), by_name)

    def add_kept(self, faults):
        for value, position in NO_KEPT:
            faults.add(InvalidNumbers, {"position": position}, "kept", [value])

    def add_cells(self, faults):
        """Add the errors of a number of cells of an object."""
        faults.add(InvalidNumber, value_of, "cells", NO_CELLS)
        faults.add(TooManyPieces, {"limit": 64}, "cells", [513, 1000, 10 ** 12, 511 + 64])


class CommonCases:
    """What memories and shared memories have in common."""

    def test_creation(self):
        for value in NO_CELLS:
            self.refused_value(InvalidNumber, value, self.KIND, Sizes([1, 2]), value)
            self.refused_value(InvalidNumber, value, self.KIND, length=value, sizes=Sizes([1, 2]))

    def test_names(self):
        for call in [self.memory.cells, self.memory.addresses, self.memory.pins]:
            faults = self.faults(call, name="a")
            faults.add(UnknownName, value_of, "name", UNKNOWN)
            faults.check()

    def test_release(self):
        faults = self.faults(self.memory.release, name="a")
        faults.add(UnknownName, value_of, "name", UNKNOWN)
        faults.add(Pinned, name_of, "name", ["p"])
        faults.check()

    def test_unpin(self):
        faults = self.faults(self.memory.unpin, name="p")
        faults.add(UnknownName, value_of, "name", UNKNOWN)
        faults.add(NotPinned, name_of, "name", ["a", "b"])
        faults.check()

    def test_read_write_and_address_of(self):
        for call, more in [(self.memory.read, {}), (self.memory.address_of, {}), (self.memory.write, {"value": 1})]:
            faults = self.faults(call, name="a", index=2, **more)
            faults.add(UnknownName, value_of, "name", UNKNOWN)
            faults.add(InvalidIndex, value_of, "index", NO_INDEXES + [3, 4])
            if more:
                faults.add(InvalidValue, value_of, "value", NO_INTEGERS)
            faults.check()

    def test_copy_cells(self):
        faults = self.faults(self.memory.copy_cells, source="a", first=1, target="b", second=0, count=1)
        faults.add(UnknownName, value_of, "source", UNKNOWN)
        faults.add(UnknownName, value_of, "target", UNKNOWN)
        faults.add(InvalidIndex, value_of, "first", NO_INDEXES + [4, 5])
        faults.add(InvalidIndex, value_of, "second", NO_INDEXES + [2, 3])
        faults.add(InvalidCount, value_of, "count", NO_INDEXES + [2, 3])
        faults.check()

    def test_owner_of(self):
        faults = self.faults(self.memory.owner_of, address=0)
        faults.add(InvalidAddress, value_of, "address", NO_ADDRESSES + [8, 9, 10 ** 12])
        faults.check()


class MemoryValuesTest(CommonCases, ValuesCase):

    KIND = Memory

    def setUp(self):
        self.memory = self.filled(Memory(Sizes([1, 2, 4, 8]), 8))

    def test_request(self):
        faults = self.faults(self.memory.request, by_name=["kept"], name="n", cells=1, kept=(1,))
        faults.add(InvalidName, value_of, "name", NO_NAMES)
        faults.add(NameTaken, name_of, "name", ["a", "b", "p"])
        self.add_cells(faults)
        self.add_kept(faults)
        faults.add(NoRoom, {"level": 0}, "cells", [3, 4, 8, 500])
        faults.add(NoRoom, {"level": 0}, "kept", [[3], (1, 1, 1), [10 ** 12]])
        faults.check()

    def test_resize(self):
        faults = self.faults(self.memory.resize, by_name=["kept"], name="a", cells=4, kept=(1,))
        faults.add(UnknownName, value_of, "name", UNKNOWN)
        faults.add(Pinned, name_of, "name", ["p"])
        self.add_cells(faults)
        self.add_kept(faults)
        faults.add(NoRoom, {"level": 0}, "cells", [6, 8, 500])
        faults.add(NoRoom, {"level": 0}, "kept", [[3], (1, 1, 1), [10 ** 12]])
        faults.check()

    def test_set_length(self):
        faults = self.faults(self.memory.set_length, by_name=["kept"], length=7, kept=(1,))
        faults.add(InvalidNumber, value_of, "length", NO_CELLS)
        self.add_kept(faults)
        faults.add(Pinned, {"name": "p"}, "length", [1, 2, 3, 4])
        faults.add(NoRoom, {"level": 0}, "length", [5])
        faults.add(NoRoom, {"level": 0}, "kept", [[3], (1, 1, 1), [10 ** 12]])
        faults.check()

    def test_pin(self):
        faults = self.faults(self.memory.pin, by_name=["kept"], name="a", kept=(1,))
        faults.add(UnknownName, value_of, "name", UNKNOWN)
        self.add_kept(faults)
        faults.add(NoRoom, {"level": 0}, "kept", [[4], (1, 1, 1, 1), [10 ** 12]])
        faults.check()

    def test_slack_and_largest(self):
        faults = self.faults(self.memory.slack, by_name=["kept"], level=1, kept=(1,))
        faults.add(InvalidLevel, value_of, "level", no_levels([1, 2, 4, 8]))
        self.add_kept(faults)
        faults.check()
        faults = self.faults(self.memory.largest, by_name=["kept"], kept=(1,))
        self.add_kept(faults)
        faults.check()

    def test_kept_is_passed_by_name(self):
        for call, parts in [(self.memory.request, ("n", 1)), (self.memory.resize, ("a", 1)), (self.memory.slack, (1,)),
                            (self.memory.set_length, (8,)), (self.memory.pin, ("a",)), (self.memory.largest, ())]:
            with self.assertRaises(TypeError):
                call(*parts, [1])


class SharedValuesTest(CommonCases, ValuesCase):

    KIND = Shared

    def setUp(self):
        self.memory = self.filled(Shared(Sizes([1, 2, 4, 8]), 8))
        self.memory.reserve("ann", 1)
        self.memory.reserve("bo", 1)

    def test_request(self):
        faults = self.faults(self.memory.request, by_name=["owner"], name="n", cells=1, owner="ann")
        faults.add(InvalidName, value_of, "name", NO_NAMES)
        faults.add(NameTaken, name_of, "name", ["a", "b", "p"])
        self.add_cells(faults)
        faults.add(InvalidName, value_of, "owner", [value for value in NO_NAMES if not is_empty(value)])
        faults.add(NoRoom, {"level": 0}, "cells", [2, 3, 8, 500])
        faults.check()
        with self.assertRaises(TypeError):
            self.memory.request("n", 1, "ann")
        self.same([self.memory.request("n", 1, owner=NO_OWNER), self.memory.kept, NO_OWNER], [[], [1, 1], ""])

    def test_reserve(self):
        faults = self.faults(self.memory.reserve, owner="ann", cells=1)
        faults.add(InvalidName, value_of, "owner", NO_NAMES)
        self.add_cells(faults)
        faults.add(NoRoom, {"level": 0}, "cells", [2, 3, 8, 500])
        faults.check()

    def test_withdraw(self):
        faults = self.faults(self.memory.withdraw, owner="ann", cells=1)
        faults.add(InvalidName, value_of, "owner", NO_NAMES)
        faults.add(InvalidNumber, value_of, "cells", NO_CELLS)
        faults.add(NoReservation, {"owner": "ann"}, "cells", [2, 1000, 10 ** 12])
        faults.check()
        faults = self.faults(self.memory.withdraw, owner="ann", cells=1)
        faults.add(NoReservation, lambda value: {"owner": value}, "owner", ["zoe", "a"])
        faults.check()

    def test_resize(self):
        faults = self.faults(self.memory.resize, name="a", cells=4)
        faults.add(UnknownName, value_of, "name", UNKNOWN)
        faults.add(Pinned, name_of, "name", ["p"])
        self.add_cells(faults)
        faults.add(NoRoom, {"level": 0}, "cells", [5, 6, 8, 500])
        faults.check()

    def test_set_length(self):
        faults = self.faults(self.memory.set_length, length=7)
        faults.add(InvalidNumber, value_of, "length", NO_CELLS)
        faults.add(Pinned, {"name": "p"}, "length", [1, 2, 3, 4])
        faults.add(NoRoom, {"level": 0}, "length", [5, 6])
        faults.check()

    def test_pin(self):
        self.memory = Shared(Sizes([1, 2, 4, 8]), 8)
        self.memory.request_all([("x", 1), ("f", 3), ("y", 1)])
        self.memory.release("f")
        self.memory.reserve("ann", 4)
        self.memory.pin("x")
        faults = self.faults(self.memory.pin, name="x")
        faults.add(UnknownName, value_of, "name", UNKNOWN + ["f"])
        # Then no region of four cells would be clear.
        faults.add(NoRoom, {"level": 2}, "name", ["y"])
        faults.check()
        self.same([self.memory.pin("x"), self.memory.unpin("x"), self.memory.unpin("x"), self.memory.pin("y")],
                  [2, 1, 0, 1])

    def test_slack(self):
        faults = self.faults(self.memory.slack, level=1)
        faults.add(InvalidLevel, value_of, "level", no_levels([1, 2, 4, 8]))
        faults.check()

    def test_pins_in_the_way(self):
        faults = self.faults(self.memory.pins_in_the_way, cells=1)
        faults.add(InvalidNumber, value_of, "cells", NO_CELLS)
        faults.check()

    def test_no_parameter_kept(self):
        for call, parts in [(self.memory.request, ("n", 1)), (self.memory.resize, ("a", 1)), (self.memory.slack, (1,)),
                            (self.memory.set_length, (8,)), (self.memory.pin, ("a",)), (self.memory.largest, ())]:
            with self.assertRaises(TypeError):
                call(*parts, kept=[])

    def test_request_all(self):
        good = [("m", 1), ("n", 1)]
        faults = self.faults(self.memory.request_all, requests=good)
        faults.add(InvalidRequests, {"position": 0}, "requests", NO_LISTS + [("m", 1), (("m", 1),)])
        for wrong in self.wrong_requests():
            faults.add(InvalidRequests, {"position": 0}, "requests", [[wrong], [wrong, wrong], [wrong, ("n", 1000)]])
            faults.add(InvalidRequests, {"position": 2}, "requests", [[("a", 1000), ("a", 8), wrong, ("n", 1), wrong]])
        faults.add(NameTaken, {"name": "a"}, "requests", [[("a", 1)], [("n", 1000), ("a", 8), ("p", 1)]])
        faults.add(NameTaken, {"name": "n"}, "requests", [[("n", 1), ("n", 1)], [("n", 1000), ("m", 8), ("n", 1),
                                                                                 ("a", 1), ("m", 1)]])
        faults.add(TooManyPieces, {"limit": 64}, "requests", [[("n", 1000)], [("m", 8), ("n", 513)],
                                                              [("n", 10 ** 12), ("m", 1)]])
        faults.add(NoRoom, {"level": 0}, "requests", [[("m", 2)], [("m", 1), ("n", 1)], [("m", 500), ("n", 1)]])
        faults.check()
        self.same([self.memory.request_all([]), self.memory.request_all([("m", 1)])], [[], [[]]])

    def wrong_requests(self):
        """Return values that are no tuple of a name and a number of cells."""
        return (NO_INTEGERS + [0, 1, "m1", ("m",), ("m", 1, ""), ["m", 1], ["m"], [("m", 1)], (("m", 1),), ("m", (1,))]
                + [(name, 1) for name in NO_NAMES] + [("m", cells) for cells in NO_CELLS])


def is_empty(value):
    return isinstance(value, str) and value == ""


if __name__ == "__main__":
    unittest.main()
