"""Texts of shared memories: both ways, and every spoiled text with the line that the rule says."""

import random
import re
import unittest

from exactroom.errors import InvalidText, NoRoom
from exactroom.shared import Shared
from exactroom.sizes import Sizes
from exactroom.texts import dump_shared, load_shared
from tests.checks import NO_STRINGS, Checks
from tests.model import piece_count

TRILLION = 10 ** 12
NUMBER = "(0|-?[1-9][0-9]*)"
CELLS = "([1-9][0-9]*)"
NAME = "([a-z]{1,8})"
BEGIN = "sizes 1 2 4\nlength 8\n"


def fits(sizes, length, numbers):
    """Return whether numbers of cells fit into an empty memory, and each of them has at most 64 pieces."""
    if any(not 1 <= cells <= TRILLION or piece_count(sizes, cells) > 64 for cells in numbers):
        return False
    return all(sum(cells - cells % size for cells in numbers) <= length - length % size for size in sizes)


def right_sizes(sizes):
    return (sizes[0] == 1 and len(sizes) <= 8 and sizes[-1] <= 10 ** 9
            and all(high > low and high % low == 0 for low, high in zip(sizes, sizes[1:])))


def can_begin(lines):
    """Return whether a text of a shared memory begins with these lines, by the words of the document."""
    if lines and not re.fullmatch(f"sizes {CELLS}( {CELLS})*", lines[0]):
        return False
    sizes = [int(word) for word in lines[0].split(" ")[1:]] if lines else [1]
    if not right_sizes(sizes):
        return False
    if len(lines) < 2:
        return True
    found = re.fullmatch(f"length {CELLS}", lines[1])
    if not found or int(found[1]) > TRILLION:
        return False
    return can_go_on(sizes, int(found[1]), lines[2:])


def can_go_on(sizes, length, lines):
    """Return whether these lines can stand behind the sizes and the length."""
    objects, indexes, reserved = {}, [], []
    for line in lines:
        if found := re.fullmatch(f"object {NAME} {CELLS}", line):
            if reserved or found[1] in objects:
                return False
            objects[found[1]] = int(found[2])
            indexes = [-1]
        elif found := re.fullmatch(f"cell {NUMBER} {NUMBER}", line):
            if reserved or not objects or int(found[2]) == 0 or not indexes[-1] < int(found[1]) < list(objects.values())[-1]:
                return False
            indexes.append(int(found[1]))
        elif found := re.fullmatch(f"reserve {NAME} {CELLS}", line):
            reserved.append(int(found[2]))
        else:
            return False
    return fits(sizes, length, list(objects.values()) + reserved)


def wrong_line(text):
    """Return the number of the line that the rule says, or None for the text of a shared memory."""
    *lines, rest = text.split("\n")
    for number in range(1, len(lines) + 1):
        if not can_begin(lines[:number]):
            return number
    return None if rest == "" and len(lines) >= 2 else len(lines) + 1


def random_shared(source):
    """Return a shared memory after many calls, with contents, pins and reservations."""
    sizes = source.choice([[1, 2, 4], [1], [1, 3, 6], [1, 10 ** 6, 10 ** 9], [1, 10]])
    length = source.choice([8, 12, 30, TRILLION])
    shared = Shared(Sizes(sizes), length)
    for name in source.sample(["a", "b", "c", "zebra", "abcdefgh", "q"], source.randrange(6)):
        cells = sum(source.choice(sizes[:2]) for _ in range(source.randrange(1, 4)))
        try:
            shared.request(name, cells)
        except NoRoom:
            continue
        for index in {0, cells - 1, source.randrange(cells)}:
            shared.write(name, index, source.choice([0, 1, -1, 10 ** 39, -(10 ** 39), source.randrange(-99, 99)]))
        if source.random() < 0.2:
            shared.pin(name)
    for name in shared.names():
        if source.random() < 0.2 and shared.pins(name) == 0:
            shared.release(name)
    for owner, cells in [("ann", 1), ("bo", 2), ("ann", 1), ("zoe", 3)][:source.randrange(5)]:
        if cells <= shared.largest():
            shared.reserve(owner, cells)
    return shared


class BothWaysTest(Checks):

    def plain_text(self, shared):
        """Return the text of a shared memory, built line by line."""
        lines = ["sizes " + " ".join(map(str, shared.sizes.all_sizes())), "length " + str(shared.capacity)]
        for name in shared.names():
            lines.append("object " + name + " " + str(shared.cells(name)))
            lines += ["cell " + str(index) + " " + str(value) for owner, index, value in shared.stored() if owner == name]
        lines += ["reserve " + owner + " " + str(cells) for owner, cells in shared.reservations()]
        return "".join(line + "\n" for line in lines)

    def test_many_shared_memories(self):
        source = random.Random(701)
        sizes = set()
        for _ in range(300):
            shared = random_shared(source)
            before = shared.clone()
            text = dump_shared(shared)
            self.same(text, self.plain_text(shared))
            self.same(dump_shared(shared=shared), text)
            loaded = load_shared(text)
            self.assertIs(type(loaded), Shared)
            self.same([dump_shared(loaded), loaded.names(), list(loaded.stored()), loaded.reservations()],
                      [text, shared.names(), list(shared.stored()), shared.reservations()])
            self.same([loaded.sizes, loaded.capacity, loaded.is_at_rest(), [loaded.pins(name) for name in loaded.names()]],
                      [shared.sizes, shared.capacity, True, [0] * len(shared)])
            # The objects are requested in sequence, so they lie as in a memory in which nothing else was done.
            fresh = Shared(shared.sizes, shared.capacity)
            for name in shared.names():
                self.same(fresh.request(name, shared.cells(name)), [])
            self.same([loaded.addresses(name) for name in loaded.names()],
                      [fresh.addresses(name) for name in fresh.names()])
            self.assertTrue(load_shared(text=text) == loaded)
            self.assertTrue(shared == before)
            sizes.add(len(text.split("\n")))
        self.assertTrue(len(sizes) > 8)

    def test_small_texts(self):
        self.same(dump_shared(Shared(Sizes([1]), 1)), "sizes 1\nlength 1\n")
        shared = Shared(Sizes([1, 10 ** 9]), TRILLION)
        shared.request("a", 10 ** 9 + 1)
        shared.write("a", 10 ** 9, -(10 ** 39))
        shared.reserve("ann", 1)
        shared.reserve("ann", 1)
        self.same(dump_shared(shared), "sizes 1 1000000000\nlength 1000000000000\nobject a 1000000001\n"
                  f"cell 1000000000 -{10 ** 39}\nreserve ann 1\nreserve ann 1\n")
        self.assertTrue(load_shared(dump_shared(shared)) == shared)

    def test_loaded_memories_are_independent(self):
        text = BEGIN + "object a 3\ncell 1 5\nreserve ann 2\n"
        first, second = load_shared(text), load_shared(text)
        first.release("a")
        first.withdraw("ann", 2)
        self.same([len(second), second.kept, second.read("a", 1)], [1, [2], 5])

    def test_memories_that_need_moves_otherwise(self):
        shared = Shared(Sizes([1, 2, 4]), 8)
        shared.request_all([(name, 1) for name in "abcdefgh"])
        for name in "bdfh":
            shared.release(name)
        shared.request("z", 4)
        loaded = load_shared(dump_shared(shared))
        self.same([loaded.names(), loaded.addresses("z"), loaded.largest()], [["a", "c", "e", "g", "z"], [4], 0])


class SpoiledTest(Checks):

    def check(self, text):
        """Check that a text is accepted, or refused with the right line."""
        wanted = wrong_line(text)
        if wanted is None:
            self.same(dump_shared(load_shared(text)), text)
        else:
            self.refused(InvalidText, {"line": wanted}, load_shared, text)
        return wanted is None

    def test_values_that_are_no_strings(self):
        for value in NO_STRINGS + [BEGIN.encode(), [BEGIN], ("sizes 1", "length 1"), Shared(Sizes([1]), 1)]:
            self.refused(InvalidText, {"line": 0}, load_shared, value)
            self.refused(InvalidText, {"line": 0}, load_shared, text=value)

    def test_spoiled_lines(self):
        source = random.Random(709)
        accepted = refused = 0
        for _ in range(60):
            lines = dump_shared(random_shared(source)).split("\n")[:-1]
            variants = []
            for at, line in enumerate(lines):
                variants += [lines[:at] + lines[at + 1:], lines[:at] + [line] + lines[at:]]
                variants += [lines[:at] + lines[at:at + 2][::-1] + lines[at + 2:]]
                variants += [lines[:at] + [other] + lines[at + 1:] for other in self.other_lines(source, line)]
            for variant in variants:
                right = self.check("".join(line + "\n" for line in variant))
                accepted += right
                refused += not right
        self.assertTrue(accepted > 200 and refused > 1000)

    def other_lines(self, source, line):
        """Return lines like this one, most of them wrong."""
        words = line.split(" ")
        found = ["", " ", line + " ", " " + line, line.upper(), line + " 1", " ".join(words[:-1]), words[0], "# " + line,
                 line.replace(" ", "  ", 1), line.replace(" ", "\t", 1), "comment", line + "0", line + "x"]
        for word in ["0", "1", "2", "-1", "007", "+1", "-0", "1000000000000", "1000000000001", "a", "A", "zebra", "", "1.0"]:
            found.append(" ".join(words[:-1] + [word]))
            found.append(" ".join(words[:1] + [word] + words[2:]))
            found.append(" ".join([word] + words[1:]))
        found += [" ".join([word] + words[1:]) for word in ["sizes", "length", "object", "cell", "reserve"]]
        return found

    def test_single_characters(self):
        source = random.Random(719)
        texts = [BEGIN + "object a 3\ncell 0 10\ncell 2 -5\nobject bb 1\nreserve ann 2\nreserve ann 1\n"]
        texts += [dump_shared(random_shared(source)) for _ in range(8)]
        signs = "\n 01259-+azAZ_.:~"
        accepted = 0
        for text in texts:
            for at in range(len(text) + 1):
                for sign in signs:
                    accepted += self.check(text[:at] + sign + text[at:])
                    accepted += self.check(text[:at] + sign + text[at + 1:])
                accepted += self.check(text[:at] + text[at + 1:])
        self.assertTrue(accepted > 500)

    def test_texts_that_end_too_early(self):
        text = BEGIN + "object a 3\ncell 0 10\nreserve ann 2\n"
        for end in range(len(text) + 1):
            right = self.check(text[:end])
            self.same(right, text[:end].endswith("\n") and text[:end].count("\n") >= 2)
        for wrong, line in [("", 1), ("sizes 1 2", 1), ("sizes 1 2\n", 2), ("sizes 1 2\nlength 4", 2), ("\n", 1),
                            ("sizes 1 2\n\n", 2), ("sizes 1 2\nlength 4\n\n", 3), ("sizes 1 2\nlength 4\nx", 3),
                            ("sizes 1 2\nlength 4\n ", 3), ("sizes 2\nlength", 1), ("sizes 1\nlengt", 2)]:
            self.refused(InvalidText, {"line": line}, load_shared, wrong)
            self.same(wrong_line(wrong), line)

    def test_known_texts(self):
        for lines, line in [
                ("object a 3\nobject a 1\n", 4), ("object a 9\n", 3), ("object a 5\nobject b 4\n", 4),
                ("object a 3\ncell 3 1\n", 4), ("object a 3\ncell 1 5\ncell 1 5\n", 5), ("object a 3\ncell 1 5\ncell 0 5\n", 5),
                ("cell 0 1\n", 3), ("object a 3\ncell 0 0\n", 4), ("object a 3\ncell 0 -0\n", 4), ("object a 3\ncell -1 1\n", 4),
                ("reserve ann 2\nobject a 1\n", 4), ("object a 2\nreserve ann 1\ncell 0 1\n", 5), ("reserve ann 9\n", 3),
                ("object a 4\nreserve ann 3\nreserve bo 2\n", 5), ("reserve Ann 1\n", 3), ("reserve ann 0\n", 3),
                ("object abcdefghi 1\n", 3), ("object a 1 \n", 3), ("object  a 1\n", 3), ("length 8\n", 3), ("sizes 1\n", 3),
                ("object a 03\n", 3), ("object a 3\nobject b 2\ncell 2 1\n", 5)]:
            self.refused(InvalidText, {"line": line}, load_shared, BEGIN + lines)
            self.same(wrong_line(BEGIN + lines), line)
        for text, line in [("sizes\nlength 1\n", 1), ("sizes 1 2 2\nlength 1\n", 1), ("sizes 2\n", 1), ("sizes 1 3 4\n", 1),
                           ("sizes 1 1000000001\n", 1), ("sizes 1 2 4 8 16 32 64 128 256\n", 1), ("length 8\n", 1),
                           ("sizes 1\nlength 0\n", 2), ("sizes 1\nlength -1\n", 2), ("sizes 1\nlength 08\n", 2),
                           ("sizes 1\nlength 1000000000001\n", 2), ("sizes 1\nlength\n", 2), ("sizes 1\nlength 1 2\n", 2),
                           ("sizes 1\nlength 99\nobject a 65\n", 3), ("sizes 1\nlength 99\nreserve a 65\n", 3)]:
            self.refused(InvalidText, {"line": line}, load_shared, text)
            self.same(wrong_line(text), line)
        self.same([load_shared(BEGIN + "object a 3\ncell 0 5\ncell 2 -7\nreserve a 3\n").read("a", 2),
                   load_shared("sizes 1\nlength 99\nobject a 64\n").largest()], [-7, 35])


if __name__ == "__main__":
    unittest.main()
