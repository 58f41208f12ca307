"""Every function, class and method of the interface: its parameters, called by position and by their names."""

import importlib
import inspect
import unittest

from exactroom.desk import Desk
from exactroom.journal import Journal
from exactroom.layouts import Layout
from exactroom.machine import Machine
from exactroom.memory import Memory
from exactroom.shared import Shared
from exactroom.sizes import Sizes
from tests.checks import Checks

SIZES = Sizes([1, 2, 4, 8])
PROGRAM = [("out", ("add", "v", 1)), ("new", "x", 2)]


def layout():
    found = Layout(SIZES, 8)
    for address in [1, 3, 4, 6]:
        found.put(0, address)
    return found


def filled(found):
    for name, cells in [("a", 3), ("b", 1)]:
        found.request(name, cells)
    found.write("a", 1, 5)
    found.pin("b")
    return found


def memory():
    return filled(Memory(SIZES, 8))


def shared():
    found = filled(Shared(SIZES, 8))
    found.reserve("ann", 2)
    return found


def journal():
    found = Journal(shared())
    found.perform_all([("settle",), ("write", "a", 0, 3)])
    return found


def machine():
    return Machine(shared(), {"t": PROGRAM})


def desk():
    found = Desk(SIZES, 8)
    found.run(["request a 3"])
    return found


# For each function: its file, its name, its parameters, and arguments in their sequence.
FUNCTIONS = [
    ("sizes", "is_integer", "(value)", [5]), ("sizes", "is_name", "(value)", ["a"]), ("sizes", "is_cells", "(value)", [5]),
    ("regions", "is_region", "(sizes, length, level, address)", [SIZES, 15, 2, 4]),
    ("regions", "region_start", "(sizes, level, address)", [SIZES, 2, 11]),
    ("regions", "count_regions", "(sizes, level, low, high)", [SIZES, 1, 3, 10]),
    ("regions", "maximal_runs", "(sizes, low, high)", [SIZES, 3, 15]),
    ("moves", "is_rearrangement", "(layout, value)", [layout(), [(1, 7)]]),
    ("moves", "rearranged", "(layout, moves)", [layout(), [(1, 7)]]),
    ("moves", "cost", "(layout, moves)", [layout(), [(1, 7)]]),
    ("moves", "moved_level", "(layout, moves)", [layout(), [(1, 7)]]), ("moves", "inverse", "(moves)", [[(1, 7)]]),
    ("moves", "composed", "(first, second)", [[(1, 7)], [(7, 3)]]),
    ("moves", "cheapest_region", "(layout, level)", [layout(), 2]), ("room", "limit", "(sizes, cells)", [SIZES, 4]),
    ("room", "chosen_addresses", "(layout, cells)", [layout(), 1]), ("room", "room", "(layout, cells)", [layout(), 4]),
    ("room", "is_room", "(layout, cells, value)", [layout(), 1, ([], [2])]),
    ("rest", "rest_counts", "(layout)", [layout()]), ("rest", "is_at_rest", "(layout)", [layout()]),
    ("rest", "settling_moves", "(layout)", [layout()]),
    ("lengths", "shortening_moves", "(layout, length)", [layout(), 4]),
    ("programs", "is_expression", "(value)", [("add", 1, 2)]), ("programs", "is_program", "(value)", [PROGRAM]),
    ("programs", "first_problem", "(value)", [[5]]),
    ("programs", "value_of", "(expression, variables)", [("add", "a", 2), {"a": 5}]),
    ("texts", "dump_shared", "(shared)", [shared()]),
    ("texts", "load_shared", "(text)", ["sizes 1 2\nlength 8\nobject a 3\n"]),
]
# For each method: how its object is made, its name, its parameters, and arguments in their sequence.
METHODS = [
    (lambda: Sizes, "doubling", "(count)", [4]), (lambda: Sizes, "from_text", "(text)", ["1 2 4"]),
    (lambda: SIZES, "all_sizes", "()", []), (lambda: SIZES, "size", "(level)", [2]),
    (lambda: SIZES, "level_of", "(cells)", [11]), (lambda: SIZES, "whole", "(cells, level)", [11, 1]),
    (lambda: SIZES, "counts", "(cells)", [11]), (lambda: SIZES, "pieces", "(cells)", [11]),
    (layout, "blocks", "()", []), (layout, "put", "(level, address, *, pinned=False)", [0, 2, True]),
    (layout, "take_out", "(address)", [1]), (layout, "set_pinned", "(address, pinned)", [1, True]),
    (layout, "block_at", "(address)", [1]), (layout, "free_runs", "()", []), (layout, "free_regions", "(level)", [1]),
    (layout, "free_addresses", "(level)", [1]), (layout, "clear_cells", "(level)", [1]),
    (layout, "unpinned_cells", "(level)", [0]), (layout, "slack", "(level, *, kept=())", [1, (1,)]),
    (layout, "short_level", "(numbers)", [[3, 2]]), (layout, "largest", "(*, kept=())", [(1,)]), (layout, "clone", "()", []),
]
COMMON = [
    ("names", "()", []), ("cells", "(name)", ["a"]), ("addresses", "(name)", ["a"]), ("pins", "(name)", ["b"]),
    ("layout", "()", []), ("release", "(name)", ["a"]), ("read", "(name, index)", ["a", 1]),
    ("write", "(name, index, value)", ["a", 0, 7]), ("stored", "()", []),
    ("copy_cells", "(source, first, target, second, count)", ["a", 1, "b", 0, 1]), ("unpin", "(name)", ["b"]),
    ("address_of", "(name, index)", ["a", 2]), ("owner_of", "(address)", [2]), ("is_at_rest", "()", []),
    ("settle", "()", []), ("clone", "()", []),
]
METHODS += [(make, *rest) for make in [memory, shared] for rest in COMMON]
METHODS += [
    (memory, "set_length", "(length, *, kept=())", [9, (1,)]), (memory, "slack", "(level, *, kept=())", [1, (1,)]),
    (memory, "largest", "(*, kept=())", [(1,)]), (memory, "request", "(name, cells, *, kept=())", ["c", 2, (1,)]),
    (memory, "resize", "(name, cells, *, kept=())", ["a", 2, (1,)]), (memory, "pin", "(name, *, kept=())", ["a", (1,)]),
    (shared, "set_length", "(length)", [9]), (shared, "slack", "(level)", [1]), (shared, "largest", "()", []),
    (shared, "request", "(name, cells, *, owner='')", ["c", 2, "ann"]), (shared, "resize", "(name, cells)", ["a", 2]),
    (shared, "pin", "(name)", ["a"]), (shared, "reservations", "()", []), (shared, "reserve", "(owner, cells)", ["bo", 1]),
    (shared, "withdraw", "(owner, cells)", ["ann", 2]), (shared, "request_all", "(requests)", [[("c", 1), ("d", 1)]]),
    (shared, "pins_in_the_way", "(cells)", [8]), (shared, "plain", "()", []),
    (journal, "shared", "()", []), (journal, "operations", "()", []), (journal, "clone", "()", []),
    (journal, "perform", "(operation)", [("pin", "a")]), (journal, "perform_all", "(operations)", [[("pin", "a")]]),
    (journal, "undo", "(count=1)", [2]), (journal, "address_now", "(time, address)", [1, 2]),
    (journal, "address_then", "(time, address)", [1, 2]),
    (machine, "tasks", "()", []), (machine, "status", "(task)", ["t"]), (machine, "variables", "(task)", ["t"]),
    (machine, "step", "(task)", ["t"]), (machine, "run", "(*, limit=200)", [1]), (machine, "outputs", "()", []),
    (machine, "shared", "()", []), (machine, "settle", "()", []), (machine, "clone", "()", []),
    (desk, "execute", "(command)", ["request b 1"]), (desk, "run", "(commands)", [["names"]]), (desk, "history", "()", []),
    (desk, "journal", "()", []),
]
CLASSES = [
    (Sizes, "(values)", [[1, 2, 4]]), (Layout, "(sizes, length)", [SIZES, 8]), (Memory, "(sizes, length)", [SIZES, 8]),
    (Shared, "(sizes, length)", [SIZES, 8]), (Journal, "(shared)", [shared()]), (Desk, "(sizes, length)", [SIZES, 8]),
    (Machine, "(shared, programs, **start)", [shared(), {"t": PROGRAM}]),
]
PROPERTIES = [
    (lambda: SIZES, "top", 3), (layout, "sizes", SIZES), (layout, "length", 8), (layout, "free", 4), (memory, "sizes", SIZES),
    (memory, "capacity", 8), (shared, "sizes", SIZES), (shared, "capacity", 8), (shared, "kept", [2]), (journal, "time", 2),
]


def shown(value):
    """Return what can be compared of a result, or of an object after a call."""
    if isinstance(value, (Memory, Journal)):
        memory_of = value.shared() if isinstance(value, Journal) else value
        rows = [(name, memory_of.addresses(name), memory_of.pins(name)) for name in memory_of.names()]
        return type(value), repr(memory_of), rows, list(memory_of.stored()), getattr(value, "time", None)
    if isinstance(value, Machine):
        return value.tasks(), [value.status(task) for task in value.tasks()], value.outputs(), shown(value.shared())
    if isinstance(value, Desk):
        return value.history(), shown(value.journal())
    if inspect.isgenerator(value):
        return list(value)
    return type(value), repr(value)


class CallsTest(Checks):

    def both_ways(self, signature, arguments):
        """Return ways to pass the arguments: by position, by name backwards, and half and half."""
        parameters = [parameter for parameter in signature.parameters.values() if parameter.kind is not parameter.VAR_KEYWORD]
        names = [parameter.name for parameter in parameters]
        fixed = [parameter.kind is not parameter.KEYWORD_ONLY for parameter in parameters].count(True)
        named = dict(zip(names, arguments))
        ways = []
        for count in range(fixed + 1):
            ways.append((arguments[:count], {name: named[name] for name in reversed(names[count:])}))
        return ways

    def check(self, make, name, text, arguments):
        """Check the parameters of a callable, and that all ways to pass arguments do the same."""
        signature = inspect.signature(getattr(make(), name))
        self.assertEqual(str(signature), text)
        self.assertEqual(len(arguments), len([key for key in signature.parameters if key != "start"]))
        found = []
        for parts, more in self.both_ways(signature, arguments):
            holder = make()
            found.append((shown(getattr(holder, name)(*parts, **more)), shown(holder)))
        self.assertEqual(found, found[:1] * len(found))
        self.check_defaults(make, name, signature, arguments)

    def check_defaults(self, make, name, signature, arguments):
        """Check that leaving defaults out does the same as passing them."""
        required = [key for key, parameter in signature.parameters.items() if parameter.default is parameter.empty]
        defaults = {key: parameter.default for key, parameter in signature.parameters.items() if key not in required}
        if defaults:
            first, second = make(), make()
            parts = arguments[:len(required)]
            self.assertEqual((shown(getattr(first, name)(*parts)), shown(first)),
                             (shown(getattr(second, name)(*parts, **defaults)), shown(second)))

    def test_functions(self):
        for module, name, text, arguments in FUNCTIONS:
            with self.subTest(name):
                found = importlib.import_module("exactroom." + module)
                self.check(lambda: found, name, text, arguments)
                self.assertEqual(getattr(found, name).__module__, "exactroom." + module)

    def test_methods(self):
        for make, name, text, arguments in METHODS:
            with self.subTest(name):
                self.check(make, name, text, arguments)

    def test_classes(self):
        for kind, text, arguments in CLASSES:
            with self.subTest(kind.__name__):
                signature = inspect.signature(kind)
                self.assertEqual(str(signature), text)
                found = [shown(kind(*parts, **more)) for parts, more in self.both_ways(signature, arguments)]
                self.assertEqual(found, found[:1] * len(found))

    def test_properties(self):
        for make, name, wanted in PROPERTIES:
            self.same(getattr(make(), name), wanted)

    def test_numbers_behind_a_star(self):
        # Layout.fits takes any number of numbers, and the kept ones by name.
        self.assertEqual(str(inspect.signature(layout().fits)), "(*numbers, kept=())")
        self.same([layout().fits(), layout().fits(3, 1), layout().fits(3, kept=[2]), layout().fits(kept=(4,))],
                  [True, True, False, True])


if __name__ == "__main__":
    unittest.main()
