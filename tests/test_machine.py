"""Machines: creation, single steps, runs and attempts, against a plain interpreter, wherever objects lie."""

import random
import unittest

from exactroom.errors import InvalidCount, InvalidName, InvalidProgram, InvalidValue, NoRoom, NotReady, UnknownTask
from exactroom.machine import Machine
from exactroom.shared import Shared
from exactroom.sizes import Sizes
from tests.checks import NO_INTEGERS, NO_NAMES, Checks
from tests.player import Player
from tests.test_programs import random_program

TRILLION = 10 ** 12
SIZES = [1, 2, 4, 8]


def memory(length=8):
    return Shared(Sizes(SIZES), length)


def machine_of(*program, length=8, **start):
    """Return a machine with one task t."""
    return Machine(memory(length), {"t": list(program)}, **start)


class CreationTest(Checks):

    def test_programs(self):
        good = [("out", 1)]
        for value in NO_INTEGERS + [0, [], [("t", good)], ("t",), "t", {}, [good], good]:
            if not isinstance(value, dict) or not value:
                self.refused(InvalidProgram, {"task": "", "path": ()}, Machine, memory(), value)
                self.refused(InvalidProgram, {"task": "", "path": ()}, Machine, programs=value, shared=memory())
        for key in NO_NAMES:
            if key.__hash__ is not None and not isinstance(key, (tuple, list, dict)):
                self.refused(InvalidProgram, {"task": "", "path": ()}, Machine, memory(), {"a": good, key: 5, "B": 5})
        for value, path in [(5, ()), (tuple(good), ()), ([("out",)], (0,)), ([("out", 1), ("out", True)], (1,)),
                            ([("repeat", 1, [("out", 1), None])], (0, 2, 1)), (good * 201, (200,))]:
            self.refused(InvalidProgram, {"task": "b", "path": path}, Machine, memory(), {"a": good, "b": value, "c": 5})
            self.refused(InvalidProgram, {"task": "b", "path": path}, Machine, memory(), {"b": value, "C": 5}, C=1)
        self.same(Machine(memory(), {"a": good, "abcdefgh": []}).tasks(), ["a", "abcdefgh"])

    def test_starting_variables(self):
        good = {"t": [("out", 1)]}
        for name in ["A", "a1", "a_b", "", "abcdefghi", "self_", "a b"]:
            self.refused(InvalidName, {"value": name}, Machine, memory(), good, **{"ok": 1, name: True, "x": None})
        for value in NO_INTEGERS:
            self.refused_value(InvalidValue, value, Machine, memory(), good, ok=1, bad=value, x="")
            self.refused(InvalidName, {"value": "B"}, Machine, memory(), good, ok=1, B=value, bad=value)
            self.refused(InvalidProgram, {"task": "t", "path": (0,)}, Machine, memory(), {"t": [5]}, B=value)
        machine = Machine(memory(), {"a": [], "b": []}, z=-5, a=10 ** 39, limit=0)
        self.same([machine.variables("a"), machine.variables("b")], [{"z": -5, "a": 10 ** 39, "limit": 0}] * 2)

    def test_every_name_can_be_a_starting_variable(self):
        names = ["self", "task", "start", "cls", "limit", "value", "length", "machine", "x"]
        machine = Machine(memory(), {"t": [("out", "self")]}, **{name: at + 3 for at, name in enumerate(names)})
        self.same([list(machine.variables("t")), machine.run(), machine.outputs()], [names, 1, [("t", 3)]])

    def test_arguments_are_copied(self):
        shared = memory()
        body = [("out", 2)]
        program = [("out", 1), ("if", 1, body, [])]
        programs = {"t": program}
        start = {"v": 1}
        machine = Machine(shared, programs, **start)
        shared.request("a", 8)
        body.append(("out", 3))
        program.append(("out", 4))
        programs["u"] = []
        start["v"] = 2
        self.same([machine.run(), machine.outputs(), machine.tasks(), machine.variables("t"), machine.shared().names()],
                  [3, [("t", 1), ("t", 2)], ["t"], {"v": 1}, []])
        self.assertEqual([shared.names(), program], [["a"], [("out", 1), ("if", 1, body, []), ("out", 4)]])

    def test_values_of_the_class(self):
        self.same([Machine.READY, Machine.ENDED, Machine.FAILED], ["ready", "ended", "failed"])
        machine = machine_of()
        self.same([machine.READY, machine.status("t"), machine.run()], ["ready", "ended", 0])

    def test_unknown_tasks(self):
        machine = machine_of(("out", 1))
        for value in NO_NAMES + ["u", "tt", "T"]:
            for call in [machine.status, machine.variables, machine.step]:
                self.refused_value(UnknownTask, value, call, value)
                self.refused_value(UnknownTask, value, call, task=value)


class StepTest(Checks):

    def steps(self, machine, task="t"):
        """Take steps until the task is not ready any more, and return the statuses."""
        found = []
        while machine.status(task) == "ready":
            found.append(machine.step(task))
        self.refused(NotReady, {"task": task}, machine.step, task)
        return found

    def test_each_instruction(self):
        machine = machine_of(("new", "a", 3), ("store", "a", ("add", 1, 1), -9), ("load", "v", "a", 2), ("out", "v"),
                             ("set", "w", ("sub", "v", 1)), ("resize", "a", 4), ("reserve", 2), ("drop", "a"),
                             ("out", ("add", "v", "w")))
        self.same(self.steps(machine), ["ready"] * 8 + ["ended"])
        self.same([machine.outputs(), machine.variables("t"), machine.shared().reservations(), machine.shared().names()],
                  [[("t", -9), ("t", -19)], {"v": -9, "w": -10}, [("t", 2)], []])

    def test_branches(self):
        for value, wanted in [(1, 1), (-1, 1), (5, 1), (0, 2), (("equal", 1, 2), 2), ("unset", 2)]:
            machine = machine_of(("if", value, [("out", 1)], [("out", 2)]), ("out", 3))
            self.same([self.steps(machine), machine.outputs()],
                      [["ready", "ready", "ended"], [("t", wanted), ("t", 3)]])
        machine = machine_of(("if", 1, [], [("out", 2)]))
        self.same([self.steps(machine), machine.outputs()], [["ended"], []])
        machine = machine_of(("if", 0, [], []), ("out", 1))
        self.same([self.steps(machine), machine.outputs()], [["ready", "ended"], [("t", 1)]])

    def test_repeats(self):
        for value, count in [(0, 0), (-1, 0), (-TRILLION, 0), (1, 1), (3, 3), (("add", 1, 1), 2), ("unset", 0)]:
            machine = machine_of(("repeat", value, [("out", 1), ("out", 2)]), ("out", 3))
            self.same([self.steps(machine), machine.outputs()],
                      [["ready"] * (1 + 2 * count) + ["ended"], [("t", 1), ("t", 2)] * count + [("t", 3)]])
        machine = machine_of(("repeat", TRILLION, []), ("repeat", TRILLION, [("repeat", 5, [])]))
        self.same([machine.step("t"), machine.step("t"), machine.run(limit=100), machine.status("t")],
                  ["ready", "ready", 100, "ready"])

    def test_the_value_of_a_repeat_is_computed_once(self):
        machine = machine_of(("set", "n", 3), ("repeat", "n", [("set", "n", ("add", "n", 5)), ("out", "n")]))
        self.steps(machine)
        self.same(machine.outputs(), [("t", 8), ("t", 13), ("t", 18)])

    def test_nested_repeats(self):
        machine = machine_of(("repeat", 2, [("out", 1), ("repeat", 3, [("out", 2)])]))
        self.same([len(self.steps(machine)), [value for _, value in machine.outputs()]],
                  [1 + 2 * (1 + 1 + 3), [1, 2, 2, 2, 1, 2, 2, 2]])

    def test_failures(self):
        for instruction in [("new", "a", 0), ("new", "a", -1), ("new", "a", TRILLION), ("new", "x", 1), ("new", "a", 9),
                            ("drop", "a"), ("drop", "p"), ("resize", "a", 1), ("resize", "p", 1), ("resize", "x", 0),
                            ("resize", "x", 9), ("resize", "x", 1000), ("store", "a", 0, 1), ("store", "x", 1, 1),
                            ("store", "x", -1, 1), ("load", "v", "x", 1), ("load", "v", "a", 0), ("reserve", 0),
                            ("reserve", 7), ("reserve", TRILLION)]:
            shared = memory()
            shared.request_all([("x", 1), ("p", 1)])
            shared.pin("p")
            machine = Machine(shared, {"t": [("out", 1), instruction, ("out", 2)], "u": [("out", 3)] * 3})
            self.same([machine.step("t"), machine.step("t"), machine.status("t")], ["ready", "failed", "failed"])
            self.refused(NotReady, {"task": "t"}, machine.step, "t")
            self.same([machine.shared() == shared, machine.variables("t")], [True, {}])
            self.same([machine.run(), machine.outputs(), machine.status("u")],
                      [3, [("t", 1)] + [("u", 3)] * 3, "ended"])

    def test_a_missing_object_fails_also_inside_an_attempt(self):
        for wrong in [("drop", "a"), ("new", "a", 0), ("new", "a", 1000), ("store", "a", 0, 0), ("reserve", -1)]:
            machine = machine_of(("attempt", [wrong], "v", [("out", 1)]), ("out", 2))
            self.same([self.steps(machine), machine.outputs(), machine.variables("t")], [["ready", "failed"], [], {}])

    def test_variables_in_sequence(self):
        machine = machine_of(("set", "z", 1), ("set", "a", 2), ("set", "s", 3), ("set", "z", 4), ("new", "o", 1),
                             ("load", "l", "o", 0), ("attempt", [("new", "p", 9)], "k", []), s=0, b=0)
        machine.run()
        self.same([machine.variables("t"), list(machine.variables("t"))],
                  [{"s": 3, "b": 0, "z": 4, "a": 2, "l": 0, "k": 0}, ["s", "b", "z", "a", "l", "k"]])

    def test_owners(self):
        shared = memory()
        shared.reserve("t", 4)
        shared.reserve("u", 4)
        programs = {"t": [("new", "a", 4), ("reserve", 1)], "u": [("new", "b", 3), ("out", 1)], "v": [("new", "c", 4)]}
        machine = Machine(shared, programs)
        self.same([machine.step("v"), machine.step("t"), machine.shared().reservations()],
                  ["failed", "ready", [("u", 4)]])
        # Another number of cells uses no reservation.
        self.same([machine.step("u"), machine.step("t"), machine.shared().kept], ["failed", "failed", [4]])


class AttemptTest(Checks):

    def played(self, *program, length=8, **start):
        machine = machine_of(*program, length=length, **start)
        steps = machine.run()
        return [steps, machine.status("t"), [value for _, value in machine.outputs()], machine.variables("t")]

    def test_refused_steps(self):
        self.same(self.played(("attempt", [("new", "a", 9), ("out", 1)], "v", [("out", ("add", "v", 50))]), ("out", 2)),
                  [4, "ended", [50, 2], {"v": 0}])
        # What was done stays done.
        machine = machine_of(("attempt", [("new", "a", 2), ("new", "b", 7), ("out", 1)], "v", []))
        self.same([machine.run(), machine.shared().names(), machine.status("t")], [3, ["a"], "ended"])

    def test_bodies_that_end(self):
        self.same(self.played(("attempt", [("out", 1)], "v", [("out", 2)]), ("out", 3)), [3, "ended", [1, 3], {}])
        self.same(self.played(("attempt", [], "v", [("out", 2)]), ("out", 3)), [2, "ended", [3], {}])
        # Behind the attempt nothing is caught any more.
        self.same(self.played(("attempt", [("out", 1)], "v", [("out", 2)]), ("new", "a", 9)), [3, "failed", [1], {}])

    def test_the_other_instructions_are_not_in_the_attempt(self):
        self.same(self.played(("attempt", [("new", "a", 9)], "v", [("new", "b", 9), ("out", 1)])),
                  [3, "failed", [], {"v": 0}])
        self.same(self.played(("attempt", [("attempt", [("new", "a", 9)], "v", [("new", "b", 9), ("out", 1)])], "w",
                                           [("out", 2)]), ("out", 3)),
                  [6, "ended", [2, 3], {"v": 0, "w": 0}])

    def test_the_innermost_attempt_counts(self):
        inner = ("attempt", [("new", "a", 9)], "v", [("out", 1)])
        self.same(self.played(("attempt", [inner, ("out", 2)], "w", [("out", 3)])), [5, "ended", [1, 2], {"v": 0}])
        # An inner attempt that has ended is not around what comes behind it.
        inner = ("attempt", [("out", 1)], "v", [("out", 9)])
        self.same(self.played(("attempt", [inner, ("new", "a", 9), ("out", 2)], "w", [("out", 3)])),
                  [5, "ended", [1, 3], {"w": 0}])

    def test_bodies_in_an_attempt(self):
        body = [("repeat", 5, [("if", ("equal", "n", 2), [("new", "a", 9), ("out", 7)], [("out", "n")]),
                               ("set", "n", ("add", "n", 1))]), ("out", 8)]
        self.same(self.played(("attempt", body, "v", [("out", 9)]), ("out", "n")),
                  [12, "ended", [0, 1, 9, 2], {"n": 2, "v": 0}])

    def test_attempts_in_repeats(self):
        self.same(self.played(("repeat", 3, [("attempt", [("new", "a", 9)], "v", []), ("out", 1)])),
                  [10, "ended", [1, 1, 1], {"v": 0}])
        self.same(self.played(("repeat", 3, [("attempt", [("new", "a", 9)], "v", [])])), [7, "ended", [], {"v": 0}])

    def test_levels(self):
        shared = memory()
        shared.request_all([("x", 1), ("f", 3), ("y", 1)])
        shared.release("f")
        shared.pin("x")
        shared.pin("y")
        machine = Machine(shared, {"t": [("attempt", [("new", "a", 4)], "v", [("out", "v")]),
                                         ("attempt", [("resize", "a", 4)], "v", []),
                                         ("attempt", [("reserve", 7)], "v", [("out", "v")])]})
        self.same([machine.run(), machine.outputs(), machine.status("t")], [5, [("t", 2)], "failed"])

    def test_reserve_and_resize_are_refused_too(self):
        self.same(self.played(("new", "a", 2), ("attempt", [("resize", "a", 9)], "v", [("out", 1)]),
                              ("attempt", [("reserve", 7)], "w", [("out", 2)]), ("reserve", 6)),
                  [8, "ended", [1, 2], {"v": 0, "w": 0}])


class RunTest(Checks):

    def test_turns(self):
        programs = {"b": [("out", 1), ("out", 2), ("out", 3)], "a": [("out", 4)], "c": [("out", 5), ("out", 6)]}
        machine = Machine(memory(), programs)
        self.same([machine.tasks(), machine.run(), machine.outputs()],
                  [["b", "a", "c"], 6, [("b", 1), ("a", 4), ("c", 5), ("b", 2), ("c", 6), ("b", 3)]])
        self.same([machine.run(), machine.run(limit=5), [machine.status(task) for task in machine.tasks()]],
                  [0, 0, ["ended"] * 3])

    def test_each_run_begins_with_the_first_task(self):
        programs = {"a": [("out", 1)] * 4, "b": [("out", 2)] * 4}
        machine = Machine(memory(), programs)
        self.same([machine.run(limit=1), machine.run(limit=1), machine.run(limit=3), machine.outputs()],
                  [1, 1, 3, [("a", 1), ("a", 1), ("a", 1), ("b", 2), ("a", 1)]])
        self.same([machine.status("a"), machine.step("b"), machine.run(), machine.outputs()[-3:]],
                  ["ended", "ready", 2, [("b", 2)] * 3])

    def test_limits(self):
        machine = machine_of(("repeat", 5000, [("out", 1)]))
        for value in NO_INTEGERS + [-1, -200]:
            self.refused_value(InvalidCount, value, machine.run, limit=value)
        self.same([machine.outputs(), machine.run(limit=0), machine.run(), machine.run(limit=201), len(machine.outputs())],
                  [[], 0, 200, 201, 400])
        with self.assertRaises(TypeError):
            machine.run(5)

    def test_failing_steps_count(self):
        machine = Machine(memory(), {"a": [("drop", "x"), ("out", 1)], "b": [("out", 2)]})
        self.same([machine.run(limit=1), machine.status("a"), machine.run(), machine.outputs()],
                  [1, "failed", 1, [("b", 2)]])

    def test_common_objects(self):
        programs = {"a": [("new", "x", 2), ("store", "x", 1, 5), ("set", "v", 1)],
                    "b": [("set", "v", 2), ("out", "v"), ("load", "v", "x", 1), ("out", "v")]}
        machine = Machine(memory(), programs)
        self.same([machine.run(), machine.outputs(), machine.variables("a"), machine.variables("b")],
                  [7, [("b", 2), ("b", 5)], {"v": 1}, {"v": 5}])

    def test_settle(self):
        shared = memory()
        shared.request_all([(name, 1) for name in "abcdefgh"])
        for name in "bdfh":
            shared.release(name)
        machine = Machine(shared, {"t": [("out", 1)]})
        self.same([machine.shared().is_at_rest(), machine.settle(), machine.shared().is_at_rest(), shared.is_at_rest()],
                  [False, None, True, False])


class CloneTest(Checks):

    def test_independent_copies(self):
        programs = {"a": [("new", "x", 1), ("repeat", 4, [("out", "n"), ("set", "n", ("add", "n", 1))])],
                    "b": [("attempt", [("out", 7), ("new", "y", 9)], "v", [("out", 8)])]}
        for first in range(16):
            machine = Machine(memory(), programs, n=5)
            machine.run(limit=first)
            twin = machine.clone()
            state = [machine.outputs(), machine.variables("a"), machine.status("a"), machine.shared()]
            steps = twin.run()
            self.same([machine.outputs(), machine.variables("a"), machine.status("a")], state[:3])
            self.assertTrue(machine.shared() == state[3])
            self.same([machine.run(), machine.outputs(), machine.variables("b")],
                      [steps, twin.outputs(), twin.variables("b")])
            self.assertTrue(machine.shared() == twin.shared())
            self.assertIs(type(twin), Machine)

    def test_copies_of_tasks_that_take_no_more_steps(self):
        machine = Machine(memory(), {"a": [("drop", "x"), ("out", 1)], "b": [("repeat", 2, [("new", "y", 9)])], "c": []})
        machine.run()
        twin = machine.clone()
        self.same([twin.status(task) for task in "abc"], ["failed", "failed", "ended"])
        for task in "abc":
            self.refused(NotReady, {"task": task}, twin.step, task)
        self.same([twin.run(), twin.outputs()], [0, []])

    def test_returned_values_are_new(self):
        machine = machine_of(("set", "v", 1), ("out", 1), ("new", "a", 1))
        machine.run()
        machine.tasks().clear()
        machine.variables("t")["v"] = 5
        machine.outputs().clear()
        machine.shared().release("a")
        self.same([machine.tasks(), machine.variables("t"), machine.outputs(), machine.shared().names()],
                  [["t"], {"v": 1}, [("t", 1)], ["a"]])
        self.assertIs(type(machine.shared()), Shared)

    def test_independent_machines(self):
        programs = {"t": [("new", "a", 1), ("set", "v", 1)]}
        shared = memory()
        first, second = Machine(shared, programs), Machine(shared, programs)
        first.run()
        self.same([second.variables("t"), second.shared().names(), second.status("t"), shared.names()],
                  [{}, [], "ready", []])


class PlayedTest(Checks):

    def random_memory(self, source):
        """Return a shared memory with some objects, scattered and partly pinned, and reservations."""
        shared = Shared(Sizes(source.choice([SIZES, [1, 3, 6], [1, 2, 4]])), source.randrange(8, 22))
        for name in "abcdefgh"[:source.randrange(3, 9)]:
            if shared.largest() > 0:
                shared.request(name, source.choice([1, 1, 2, min(3, shared.largest())][:shared.largest() + 1]))
        for name in shared.names()[1::3]:
            shared.release(name)
        for name in shared.names()[1::3]:
            shared.pin(name)
        for owner in ["t", "u"]:
            if shared.largest() > 3:
                shared.reserve(owner, source.randrange(1, 3))
        return shared

    def program(self, source):
        """Return a program that begins with attempts of large requests and tries many other things."""
        program = []
        for _ in range(source.randrange(4)):
            name = "".join(source.choice("abcdxyz") for _ in range(3))
            request = [source.choice([("new", name, source.choice([2, 4, 6, 8, source.randrange(1, 30)])),
                                      ("reserve", source.choice([3, 4, 8, source.randrange(1, 20)]))])]
            body = source.choice([request, [("out", 1), *request], [("repeat", 3, request)], [("if", "n", request, [])],
                                  [("attempt", request, "v", [("set", "n", 0), *request]), ("out", 2)]])
            program.append(("attempt", body, "level", random_program(source, 2, 2)))
        return program + random_program(source, 4, source.choice([3, 6, 12]))

    def check(self, machine, player):
        for task in player.status:
            self.same([machine.status(task), machine.variables(task), list(machine.variables(task))],
                      [player.status[task], player.variables[task], list(player.variables[task])])
        self.same(machine.outputs(), player.outputs)
        self.assertTrue(machine.shared() == player.shared)

    def test_against_the_plain_interpreter(self):
        source = random.Random(607)
        seen = {}
        for _ in range(250):
            programs = {task: self.program(source) for task in ["t", "u", "v"]}
            shared = self.random_memory(source)
            machine, player = Machine(shared, programs, n=2, w=1), Player(shared, programs, {"n": 2, "w": 1})
            self.check(machine, player)
            for _ in range(30):
                limit = source.randrange(4)
                self.same(machine.run(limit=limit), player.run(limit))
                task = source.choice(["t", "u", "v"])
                if player.status[task] == "ready":
                    player.go_on(task)
                    self.same(machine.step(task), player.status[task])
                self.check(machine, player)
            self.same(machine.run(), player.run(200))
            self.check(machine, player)
            for status in player.status.values():
                seen[status] = seen.get(status, 0) + 1
            for _, what in player.refusals:
                seen[what] = seen.get(what, 0) + 1
        self.assertTrue(seen.get(1, 0) + seen.get(2, 0) + seen.get(3, 0) > 5, seen)
        for what in ["ended", "failed", 0, "NoRoom", "InvalidNumber", "NameTaken", "UnknownName", "Pinned",
                     "InvalidIndex"]:
            self.assertTrue(seen.get(what, 0) > 5, what)


class SameOutputsTest(Checks):
    """The unpinned objects lie elsewhere, and the memories are settled in between, but the outputs are the same."""

    def moved(self, source, shared):
        """Return a copy with the same objects, reservations and pinned blocks, in which other objects lie elsewhere."""
        other = shared.clone()
        for _ in range(source.randrange(1, 6)):
            loose = [name for name in other.names() if other.pins(name) == 0]
            if source.random() < 0.3 or not loose:
                other.settle()
            else:
                name = source.choice(loose)
                cells = other.cells(name)
                try:
                    other.resize(name, cells + source.randrange(1, 4))
                except NoRoom:
                    continue
                other.resize(name, cells)
        return other

    def seen(self, source, machine, settling):
        """Run a machine, with settling in between or without, and return what can be seen of it."""
        levels = []
        for _ in range(40):
            machine.run(limit=3)
            if settling and source.random() < 0.3:
                machine.settle()
            levels.append([machine.status(task) for task in machine.tasks()])
        shared = machine.shared()
        objects = [(name, shared.cells(name)) for name in shared.names()]
        return [machine.outputs(), levels, [machine.variables(task) for task in machine.tasks()], objects,
                list(shared.stored()), shared.reservations()]

    def test_same_outputs(self):
        source = random.Random(613)
        refused = moved = 0
        for _ in range(120):
            shared = PlayedTest().random_memory(source)
            # Each task tries requests of all sizes, and tells the levels of the refused ones.
            programs = {}
            for at, task in enumerate(["t", "u"]):
                body = random_program(source, 3, 5)
                tries = [("attempt", [("new", name * (at + 2), source.randrange(1, 12)), ("out", 99)], "level",
                          [("out", "level")]) for name in "klmnopq"]
                programs[task] = tries[:3] + [("attempt", body, "level", [("out", "level")])] + tries[3:]
            wanted = self.seen(source, Machine(shared, programs, n=2), False)
            refused += sum(value != 99 for _, value in wanted[0])
            for settling in [False, True]:
                other = self.moved(source, shared)
                moved += other != shared
                self.assertEqual(self.seen(source, Machine(other, programs, n=2), settling), wanted)
        self.assertTrue(refused > 200 and moved > 100)


if __name__ == "__main__":
    unittest.main()
