"""Desks: every command with right and wrong words, runs and their history, and long histories against a plain model."""

import copy
import random
import unittest

from exactroom.desk import Desk
from exactroom.errors import InvalidAddress, InvalidCommand, InvalidCount, InvalidIndex, InvalidLevel, InvalidNumber
from exactroom.errors import NameTaken, NoReservation, NoRoom, NotPinned, Pinned, TooManyPieces, UnknownName
from exactroom.journal import Journal
from exactroom.shared import Shared
from exactroom.sizes import Sizes
from exactroom.texts import dump_shared
from tests import plain
from tests.checks import NO_CELLS, NO_LISTS, NO_STRINGS, Checks
from tests.model import Model, Thing
from tests.record import outcome
from tests.walks import OWNERS

TRILLION = 10 ** 12
# What stands behind the first word of each command.
COMMANDS = [
    ("request", "NAME", "CELLS"), ("request", "NAME", "CELLS", "OWNER"), ("release", "NAME"), ("resize", "NAME", "CELLS"),
    ("write", "NAME", "INDEX", "VALUE"), ("pin", "NAME"), ("unpin", "NAME"), ("reserve", "OWNER", "CELLS"),
    ("withdraw", "OWNER", "CELLS"), ("settle",), ("length", "CELLS"), ("undo", "COUNT"), ("largest",), ("free",),
    ("slack", "LEVEL"), ("read", "NAME", "INDEX"), ("cells", "NAME"), ("where", "NAME"), ("who", "ADDRESS"),
    ("pins", "CELLS"), ("names",), ("text",),
]
NO_WORDS = {True: ["", "A", "aB", "abcdefghi", "1", "-", "a1", "a_b", "-a"],
            False: ["", "a", "+1", "01", "00", "-0", "-01", "--1", "1-", "1.0", "1e3", "0x1", "1_000", "-", "one", "1,0"]}


def new_desk(length=8, sizes=(1, 2, 4, 8)):
    return Desk(Sizes(list(sizes)), length)


def right_word(kind):
    return "n" if kind in ("NAME", "OWNER") else "1"


class CommandTest(Checks):

    def desk(self):
        desk = new_desk()
        desk.run(["request a 3", "request p 1", "write a 2 -5", "pin p", "reserve ann 2"])
        return desk

    def test_results(self):
        desk = self.desk()
        for command, result in [
                ("names", "a p"), ("cells a", "3"), ("where a", "0 2"), ("where p", "3"), ("read a 2", "-5"),
                ("read a 0", "0"), ("who 0", "a 0"), ("who 2", "a 2"), ("who 3", "p 0"), ("who 4", "-"), ("largest", "2"),
                ("free", "4"), ("slack 0", "2"), ("slack 1", "2"), ("slack 2", "4"), ("slack 3", "0"), ("pins 2", ""),
                ("text", "sizes 1 2 4 8\nlength 8\nobject a 3\ncell 2 -5\nobject p 1\nreserve ann 2\n"),
                ("request b 2 ann", "ok"), ("names", "a p b"), ("largest", "2"), ("request c 1", "ok"), ("release c", "ok"),
                ("resize b 1", "ok"), ("unpin p", "ok"), ("reserve bo 1", "ok"), ("withdraw bo 1", "ok"), ("settle", "ok"),
                ("length 9", "ok"), ("free", "4"), ("undo 0", "14"), ("undo 2", "12"), ("free", "3"), ("undo 12", "0"),
                ("names", ""), ("largest", "8"), ("text", "sizes 1 2 4 8\nlength 8\n"), ("pins 9", "")]:
            self.same(desk.execute(command), result)
        self.same(new_desk(TRILLION).execute("largest"), "1000000000000")

    def test_pins_in_the_way(self):
        desk = new_desk()
        desk.run(["request x 1", "request f 3", "request y 1", "release f", "pin x", "pin y"])
        self.same([desk.execute(command) for command in ["pins 4", "pins 3", "pins 7", "pins 1000000000000"]],
                  ["x y", "", "", ""])

    def test_errors_of_the_calls(self):
        desk = self.desk()
        before = desk.journal()
        for command, error, attributes in [
                ("request a 1", NameTaken, {"name": "a"}), ("request b 0", InvalidNumber, {"value": 0}),
                ("request b -3 ann", InvalidNumber, {"value": -3}), ("request b 1000", TooManyPieces, {"limit": 64}),
                ("request b 3", NoRoom, {"level": 0}), ("request b 3 ann", NoRoom, {"level": 0}),
                ("release b", UnknownName, {"value": "b"}), ("release p", Pinned, {"name": "p"}),
                ("resize b 1", UnknownName, {"value": "b"}), ("resize p 1", Pinned, {"name": "p"}),
                ("resize a 0", InvalidNumber, {"value": 0}), ("resize a 6", NoRoom, {"level": 0}),
                ("write b 0 0", UnknownName, {"value": "b"}), ("write a 3 0", InvalidIndex, {"value": 3}),
                ("write a -1 0", InvalidIndex, {"value": -1}), ("pin b", UnknownName, {"value": "b"}),
                ("unpin b", UnknownName, {"value": "b"}), ("unpin a", NotPinned, {"name": "a"}),
                ("reserve ann 0", InvalidNumber, {"value": 0}), ("reserve ann 3", NoRoom, {"level": 0}),
                ("reserve ann 1000", TooManyPieces, {"limit": 64}), ("withdraw ann 1", NoReservation, {"owner": "ann"}),
                ("withdraw bo 2", NoReservation, {"owner": "bo"}), ("withdraw bo 0", InvalidNumber, {"value": 0}),
                ("length 0", InvalidNumber, {"value": 0}), ("length 3", Pinned, {"name": "p"}),
                ("length 5", NoRoom, {"level": 0}), ("undo 6", InvalidCount, {"value": 6}),
                ("undo -1", InvalidCount, {"value": -1}), ("slack 4", InvalidLevel, {"value": 4}),
                ("slack -1", InvalidLevel, {"value": -1}), ("read b 0", UnknownName, {"value": "b"}),
                ("read a 3", InvalidIndex, {"value": 3}), ("cells b", UnknownName, {"value": "b"}),
                ("where b", UnknownName, {"value": "b"}), ("who 8", InvalidAddress, {"value": 8}),
                ("who -1", InvalidAddress, {"value": -1}), ("pins 0", InvalidNumber, {"value": 0}),
                ("pins 1000000000001", InvalidNumber, {"value": TRILLION + 1})]:
            self.refused(error, attributes, desk.execute, command)
            self.refused(error, attributes, desk.execute, command=command)
            self.same([desk.journal() == before, desk.journal().time], [True, 5])

    def wrong_commands(self):
        """Yield commands that are wrong by their words or by the number of their words."""
        for word, *kinds in COMMANDS:
            right = [word] + [right_word(kind) for kind in kinds]
            for at, kind in enumerate(kinds):
                for wrong in NO_WORDS[kind in ("NAME", "OWNER")]:
                    yield right[:at + 1] + [wrong] + right[at + 2:]
            for at in range(len(right) + 1):
                yield right[:at] + [""] + right[at:]
            yield right[:-1]
            yield [word.upper()] + right[1:]
            yield [word + "s"] + right[1:]
            for more in [["n"], ["1"], ["1", "1"], ["n", "n"], ["1", "n"], ["n", "1"], ["ok"], ["-"]]:
                yield right + more

    def test_wrong_commands(self):
        desk = self.desk()
        before = desk.journal()
        forms = [[word] + [kind in ("NAME", "OWNER") for kind in kinds] for word, *kinds in COMMANDS]
        count = 0
        for words in self.wrong_commands():
            kinds = words[:1] + [word not in NO_WORDS[True] for word in words[1:]]
            if kinds in forms and not any(word in NO_WORDS[kind] for word, kind in zip(words[1:], kinds[1:])):
                # What was put behind a command makes another one: a request for an owner.
                self.assertEqual(words[0], "request")
                continue
            for command in [" ".join(words)]:
                self.refused(InvalidCommand, {}, desk.execute, command)
                count += 1
        self.assertTrue(count > 500)
        for command in ["", " ", "  ", "\n", "names\n", " names", "names ", "text\n", "nothing", "request a 1\n", "-", "1",
                        "request  a 1", "request a  1", "settle settle", "clone", "time", "history", "perform settle"]:
            self.refused(InvalidCommand, {}, desk.execute, command)
        for value in NO_STRINGS + [b"names", ["names"], ("names",), None]:
            self.refused(InvalidCommand, {}, desk.execute, value)
        self.same([desk.journal() == before, desk.history()], [True, [("begin", 5), ("end", 5)]])

    def test_large_numbers(self):
        desk = self.desk()
        for value in [10 ** 39, -(10 ** 39), 0, 10 ** 12]:
            self.same([desk.execute(f"write a 0 {value}"), desk.execute("read a 0")], ["ok", str(value)])
        self.refused(InvalidNumber, {"value": 10 ** 39}, desk.execute, f"request b {10 ** 39}")

    def test_commands_are_operations(self):
        desk = self.desk()
        self.same(desk.journal().operations(), [("request", "a", 3, ""), ("request", "p", 1, ""), ("write", "a", 2, -5),
                                                ("pin", "p"), ("reserve", "ann", 2)])
        desk.execute("request b 2 ann")
        desk.execute("length 9")
        desk.execute("settle")
        self.same(desk.journal().operations()[5:], [("request", "b", 2, "ann"), ("length", 9), ("settle",)])
        # Queries are none.
        for command in ["names", "text", "largest", "who 0", "undo 0"]:
            desk.execute(command)
        self.same(desk.journal().time, 8)


class RunTest(Checks):

    def test_runs(self):
        desk = new_desk()
        self.same([desk.run([]), desk.run(["request a 1", "names", "free"]), desk.run(commands=["undo 1", "names"])],
                  [[], ["ok", "a", "7"], ["0", ""]])
        self.same(desk.history(), [("begin", 0), ("end", 0), ("begin", 3), ("end", 3), ("begin", 2), ("end", 2)])

    def test_runs_that_raise(self):
        desk = new_desk()
        desk.run(["request a 1", "write a 0 5"])
        before = desk.journal()
        for commands, error, attributes, count in [
                (["release b"], UnknownName, {"value": "b"}, 0), (["release a", "release a"], UnknownName, {"value": "a"}, 1),
                (["request b 1", "names", "nonsense", "release x"], InvalidCommand, {}, 2), ([5], InvalidCommand, {}, 0),
                (["undo 2", "request c 8", "request d 1"], NoRoom, {"level": 0}, 2), (["undo 2", "undo 1"], InvalidCount,
                                                                                     {"value": 1}, 1),
                ([["names"], "names"], InvalidCommand, {}, 0), (["settle", None], InvalidCommand, {}, 1)]:
            passed = list(commands)
            self.refused(error, attributes, desk.run, passed)
            self.assertEqual(passed, commands)
            self.same([desk.history()[-2:], desk.journal() == before, desk.journal().operations()],
                      [[("begin", len(commands)), ("end", count)], True, before.operations()])
            self.same([desk.execute("read a 0"), desk.journal().address_now(1, 0)], ["5", 0])

    def test_values_that_are_no_lists(self):
        desk = new_desk()
        for value in NO_LISTS + [("names",), "names", {"names": 1}]:
            self.refused(InvalidCommand, {}, desk.run, value)
        self.same(desk.history(), [])

    def test_single_commands_are_no_runs(self):
        desk = new_desk()
        desk.execute("request a 1")
        self.refused(NameTaken, {"name": "a"}, desk.execute, "request a 1")
        self.same([desk.history(), desk.journal().time], [[], 1])

    def test_undoing_in_a_run(self):
        desk = new_desk()
        desk.run(["request a 1", "request b 1"])
        self.same([desk.run(["undo 2", "request c 2", "names"]), desk.journal().time, desk.run(["undo 1", "names"])],
                  [["0", "ok", "c"], 1, ["0", ""]])

    def test_later_changes_have_no_effect(self):
        desk = new_desk()
        commands = ["request a 1", "names"]
        results = desk.run(commands)
        commands.clear()
        results.clear()
        desk.history().clear()
        journal = desk.journal()
        journal.perform(("release", "a"))
        journal.undo(2)
        self.same([desk.history(), desk.journal().time, desk.execute("names")], [[("begin", 2), ("end", 2)], 1, "a"])
        self.assertIs(type(desk.journal()), Journal)

    def test_two_desks(self):
        sizes = Sizes([1, 2])
        first, second = Desk(sizes, 8), Desk(length=9, sizes=sizes)
        first.run(["request a 1"])
        second.execute("request b 2")
        self.same([first.execute("names"), second.execute("names"), first.history(), second.history(),
                   second.execute("free")], ["a", "b", [("begin", 1), ("end", 1)], [], "7"])

    def test_creation(self):
        for value in NO_CELLS:
            self.refused_value(InvalidNumber, value, Desk, Sizes([1, 2]), value)
            self.refused_value(InvalidNumber, value, Desk, length=value, sizes=Sizes([1, 2]))


class HistoryTest(Checks):
    """Long histories of commands against a plain model; where unpinned objects lie is taken over from the desk."""

    def error_of(self, model, times, words):
        """Return what a command must raise, or None."""
        word, *parts = words
        numbers = [int(part) for part in parts if part.lstrip("-").isdigit()]
        kept = model.kept()
        if word == "request":
            if len(parts) == 3 and (parts[2], numbers[0]) in model.reservations:
                kept.remove(numbers[0])
            return model.request_error(parts[0], numbers[0], kept)
        if word == "withdraw":
            return model.withdraw_error(parts[0], numbers[0])
        if word == "settle":
            return None
        if word == "undo":
            return None if 0 <= numbers[0] < len(times) else (InvalidCount, {"value": numbers[0]})
        return {"release": lambda: model.pin_error(parts[0]), "resize": lambda: model.resize_error(parts[0], *numbers, kept),
                "write": lambda: model.index_error(parts[0], numbers[0]), "unpin": lambda: model.unpin_error(parts[0]),
                "pin": lambda: model.one_pin_more_error(parts[0], kept), "reserve": lambda: model.reserve_error(*numbers),
                "length": lambda: model.length_error(numbers[0], kept)}[word]()

    def change(self, model, words):
        """Change the model as a command does, but for addresses."""
        word, *parts = words
        numbers = [int(part) for part in parts if part.lstrip("-").isdigit()]
        if word == "request":
            if len(parts) == 3 and (parts[2], numbers[0]) in model.reservations:
                model.reservations.remove((parts[2], numbers[0]))
            model.objects[parts[0]] = Thing(numbers[0], [])
        elif word == "release":
            del model.objects[parts[0]]
        elif word == "resize":
            model.resize(parts[0], numbers[0], model.objects[parts[0]].addresses)
        elif word == "write":
            model.objects[parts[0]].contents[numbers[0]] = numbers[1]
        elif word in ("pin", "unpin"):
            model.objects[parts[0]].pins += 1 if word == "pin" else -1
        elif word == "reserve":
            model.reservations.append((parts[0], numbers[0]))
        elif word == "withdraw":
            model.reservations.remove((parts[0], numbers[0]))
        elif word == "length":
            model.length = numbers[0]

    def take_places(self, desk, model):
        """Take over where the objects lie; pinned ones stay where they were."""
        for name, thing in model.objects.items():
            addresses = [int(word) for word in desk.execute("where " + name).split(" ")]
            if thing.pins > 1:
                self.assertEqual(addresses, thing.addresses)
            thing.addresses = addresses

    def text_of(self, model):
        lines = ["sizes " + " ".join(map(str, model.values)), f"length {model.length}"]
        for name, thing in model.objects.items():
            lines.append(f"object {name} {thing.cells}")
            lines += [f"cell {index} {value}" for owner, index, value in model.stored() if owner == name]
        return "".join(line + "\n" for line in lines + [f"reserve {owner} {cells}" for owner, cells in model.reservations])

    def check(self, desk, model):
        """Check all queries against the model."""
        kept = model.kept()
        self.assertTrue(model.are_disjoint_regions())
        self.same([desk.execute("names"), desk.execute("largest"), desk.execute("free"), desk.execute("text")],
                  [" ".join(model.names()), str(model.largest(kept)),
                   str(model.length - sum(thing.cells for thing in model.objects.values())), self.text_of(model)])
        self.same([desk.execute(f"slack {level}") for level in range(len(model.values))],
                  [str(model.slack(level, kept)) for level in range(len(model.values))])
        for name, thing in model.objects.items():
            self.same([desk.execute("cells " + name), desk.journal().shared().pins(name)], [str(thing.cells), thing.pins])
            self.same([desk.execute(f"read {name} {index}") for index in range(thing.cells)],
                      [str(thing.contents.get(index, 0)) for index in range(thing.cells)])
        owners = model.owners()
        self.same([desk.execute(f"who {address}") for address in range(model.length)],
                  ["{} {}".format(*owners[address]) if address in owners else "-" for address in range(model.length)])
        self.same([desk.execute(f"pins {cells}") for cells in range(1, model.length + 2, 3)],
                  [" ".join(model.pins_in_the_way(cells)) for cells in range(1, model.length + 2, 3)])

    def random_words(self, source, model, length):
        name = source.choice(model.names() * 2 + ["a", "b", "cc", "ddd", "e", "f"])
        cells = str(source.choice([1, 1, 2, 3, source.randrange(1, 9), source.randrange(1, length + 2)]))
        word = source.choice(["request"] * 5 + ["release", "release", "resize", "resize", "write", "write", "pin", "unpin",
                                                "reserve", "withdraw", "settle", "length", "undo"])
        owner, reserved = source.choice(model.reservations + [(source.choice(OWNERS), int(cells))])
        return {"request": source.choice([[word, source.choice("abcdefgh") * 2, cells],
                                          [word, source.choice("abcdefgh"), str(reserved), owner]]),
                "release": [word, name], "resize": [word, name, cells],
                "write": [word, name, str(source.randrange(4)), str(source.randrange(-9, 9))], "pin": [word, name],
                "unpin": [word, source.choice(model.pinned_names() + [name])], "reserve": [word, owner, cells],
                "withdraw": [word, owner, str(reserved)], "settle": [word],
                "length": [word, str(source.choice([length, length + 4, max(1, length - 6)]))],
                "undo": [word, str(source.choice([0, 1, 1, 2, 5]))]}[word]

    def test_long_histories(self):
        source = random.Random(809)
        seen = {}
        for values, length in [([1, 2, 4, 8], 19), ([1, 3, 6], 21), ([1], 9), ([1, 2, 4], 16)] * 3:
            desk = new_desk(length, values)
            times = [Model(values, length)]
            for step in range(70):
                words = self.random_words(source, times[-1], length)
                error = self.error_of(times[-1], times, words)
                command = " ".join(words)
                kind = "ok" if error is None else error[0].__name__
                seen[words[0], kind] = seen.get((words[0], kind), 0) + 1
                if error is not None:
                    self.refused(*error, desk.execute, command)
                elif words[0] == "undo":
                    times = times[:len(times) - int(words[1])]
                    self.same(desk.execute(command), str(len(times) - 1))
                else:
                    self.same(desk.execute(command), "ok")
                    model = copy.deepcopy(times[-1])
                    self.change(model, words)
                    self.take_places(desk, model)
                    times.append(model)
                if step % 5 == 0 or words[0] == "undo":
                    self.check(desk, times[-1])
            self.same(desk.journal().time, len(times) - 1)
        for what in [("request", "NoRoom"), ("request", "NameTaken"), ("resize", "NoRoom"), ("undo", "ok"), ("pin", "ok"),
                     ("length", "ok"), ("withdraw", "ok"), ("unpin", "ok"), ("settle", "ok"), ("length", "NoRoom")]:
            self.assertTrue(seen.get(what, 0) > 2, what)

    def renamed(self, text):
        """Return a text with other names for the objects and owners, of other lengths."""
        names = {"aa": "zyx", "bb": "q", "cc": "cccc", "dd": "moon", "ee": "sun", "ff": "abcdefgh", "gg": "g", "hh": "h",
                 "a": "bb", "b": "aa", "c": "x", "d": "y", "e": "z", "f": "w", "g": "vvv", "h": "uu", "ann": "ddd",
                 "bo": "eeeeeeee", "ddd": "ann"}
        return "\n".join(" ".join(names.get(word, word) for word in line.split(" ")) for line in text.split("\n"))

    def test_other_names_change_nothing_but_the_names(self):
        source = random.Random(811)
        for values, length in [([1, 2, 4, 8], 19), ([1, 3, 6], 21)] * 4:
            first, second = new_desk(length, values), new_desk(length, values)
            model = Model(values, length)
            for _ in range(60):
                model.objects = {name: Thing(1, []) for name in first.execute("names").split(" ") if name}
                model.reservations = first.journal().shared().reservations()
                commands = [" ".join(self.random_words(source, model, length))]
                commands += [f"where {name}" for name in model.objects] + ["text", "names", "largest", "slack 1", "who 3"]
                for command in commands:
                    found, other = outcome(first.execute, command), outcome(second.execute, self.renamed(command))
                    self.assertEqual(found[0], other[0])
                    if found[0] == "returned":
                        self.assertEqual(self.renamed(found[1]), other[1])
                    else:
                        self.assertEqual({key: self.renamed(str(value)) for key, value in found[1].items()},
                                         {key: str(value) for key, value in other[1].items()})

    def test_far_desks(self):
        desk = new_desk(TRILLION, [1, 10 ** 6, 10 ** 9])
        found = desk.run(["request a 64000000000", "request b 3000001", "write b 3000000 -1", "where b", "who 64003000000",
                          "largest", "free", "slack 2", "length 64003000001", "largest", "text"])
        self.same(found, ["ok", "ok", "ok", "64000000000 64001000000 64002000000 64003000000", "b 3000000",
                          "935996999999", "935996999999", "936000000000", "ok", "0",
                          "sizes 1 1000000 1000000000\nlength 64003000001\nobject a 64000000000\nobject b 3000001\n"
                          "cell 3000000 -1\n"])

    def test_against_a_shared_memory(self):
        """The text and the queries of a desk are those of the shared memory of its journal."""
        desk = new_desk()
        desk.run(["request a 3", "reserve ann 2", "request b 2 ann", "write b 1 4"])
        shared = desk.journal().shared()
        self.same([desk.execute("text"), type(shared)], [dump_shared(shared), Shared])
        self.same(len(plain.pieces([1, 2, 4, 8], shared.cells("a"))), len(shared.addresses("a")))


if __name__ == "__main__":
    unittest.main()
