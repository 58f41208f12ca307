"""Expressions and programs: each kind right and wrong in each part, depths and counts, paths and values."""

import random
import unittest

from exactroom.errors import InvalidValue
from exactroom.programs import MAX_DEPTH, MAX_INSTRUCTIONS, first_problem, is_expression, is_program, value_of
from tests.checks import NO_INTEGERS, NO_NAMES, Checks, Odd

TRILLION = 10 ** 12
# The parts of the instructions as the document lists them.
KINDS = {
    "new": ["object", "cells"], "drop": ["object"], "resize": ["object", "cells"],
    "store": ["object", "index", "value"], "load": ["variable", "object", "index"], "set": ["variable", "value"],
    "out": ["value"], "reserve": ["cells"], "if": ["value", "body", "other"], "repeat": ["value", "body"],
    "attempt": ["body", "variable", "other"],
}
RIGHT = {
    "object": ["a", "zebra", "abcdefgh"], "variable": ["v", "new", "if"], "cells": [1, 0, -5, "n"],
    "index": [0, ("add", "a", 1)], "value": [5, "v", ("less", ("sub", 1, "x"), TRILLION), -TRILLION],
    "body": [[], [("out", 1)], [("drop", "a"), ("if", 1, [], [])]], "other": [[], [("set", "v", 1)]],
}
NO_EXPRESSIONS = [value for value in NO_INTEGERS if not (type(value) is str and value == "a")] + [
    TRILLION + 1, -TRILLION - 1, 10 ** 30, "A", "abcdefghi", "a b", [1], ["add", 1, 2], ("add", 1), ("add",),
    ("add", 1, 2, 3), ("mul", 1, 2), ("Add", 1, 2), ("add", True, 1), ("add", 1, False), ("add", 1, None), ("add", [1], 1),
    ("add", 1, TRILLION + 1), ("add", ("add", 1, True), 2), ("add", 1, ("sub", 1)), ("add", 1, ""), (1, 2, 3),
    (["add"], 1, 2), (("add",), 1, 2), (None, 1, 2), (True, 1, 2), ("add", 1, ["a"]), ("", 1, 2), (Odd(), 1, 2),
    ("add", Odd(), 1), {"add": 1}, ("less", 1, {}), ("equal", set(), 1),
]
NO_BODIES = [value for value in NO_INTEGERS if type(value) is not list] + [0, 5, (("out", 1),), ("out", 1), {0: ("out", 1)}]


def deep_expression(depth, left=True):
    expression = 1
    for _ in range(depth - 1):
        expression = ("add", expression, 2) if left else ("sub", "a", expression)
    return expression


def deep_program(depth, inner, word="repeat"):
    """Return a program with an instruction of this depth, and its path."""
    program, path = [inner], (0,)
    for _ in range(depth - 1):
        outer, position = {"repeat": (("repeat", 1, program), 2), "if": (("if", 1, [], program), 3),
                           "attempt": (("attempt", program, "v", []), 1)}[word]
        program, path = [outer], (0, position, *path)
    return program, path


def plain_expression(value, depth=1):
    """Return whether a value is an expression, by the words of the document."""
    if type(value) is int:
        return depth <= 6 and -TRILLION <= value <= TRILLION
    if type(value) is str:
        return depth <= 6 and 1 <= len(value) <= 8 and all("a" <= letter <= "z" for letter in value)
    if type(value) is tuple and len(value) == 3 and type(value[0]) is str:
        return (value[0] in ("add", "sub", "less", "equal") and plain_expression(value[1], depth + 1)
                and plain_expression(value[2], depth + 1))
    return False


def plain_name(value):
    return type(value) is str and plain_expression(value)


def plain_problem(value):
    """Return the path of the first problem, found by going down the bodies."""
    count = 0

    def problem_in(body, path, depth):
        nonlocal count
        for index, instruction in enumerate(body):
            count += 1
            here = path + (index,)
            if count > 200 or depth > 6 or type(instruction) is not tuple or not instruction:
                return here
            word, *parts = instruction
            if type(word) is not str or word not in KINDS or len(parts) != len(KINDS[word]):
                return here
            for kind, part in zip(KINDS[word], parts):
                if kind in ("object", "variable") and not plain_name(part):
                    return here
                if kind in ("cells", "index", "value") and not plain_expression(part):
                    return here
                if kind in ("body", "other") and type(part) is not list:
                    return here
            for position, part in enumerate(instruction):
                if type(part) is list:
                    found = problem_in(part, here + (position,), depth + 1)
                    if found is not None:
                        return found
        return None

    return problem_in(value, (), 1) if type(value) is list else ()


class ExpressionTest(Checks):

    def test_right_ones(self):
        for value in [0, 1, -1, TRILLION, -TRILLION, "a", "abcdefgh", "add", ("add", 1, 2), ("sub", "a", "b"),
                      ("less", 0, ("equal", 1, 1)), ("equal", ("add", "x", 1), ("sub", 5, "y"))]:
            self.same([is_expression(value), is_expression(value=value)], [True, True])

    def test_wrong_ones(self):
        for value in NO_EXPRESSIONS:
            self.same(is_expression(value), False)
            with self.assertRaises(InvalidValue) as caught:
                value_of(value, {})
            self.assertIs(caught.exception.value, value)
            self.same(is_expression(("add", value, 1)), False)
            self.same(is_expression(("less", 1, value)), False)

    def test_depths(self):
        self.same([MAX_DEPTH, MAX_INSTRUCTIONS], [6, 200])
        for left in [True, False]:
            for depth in range(1, 9):
                self.same(is_expression(deep_expression(depth, left)), depth <= 6)
        self.same(is_expression(("add", deep_expression(5), deep_expression(5, False))), True)
        self.same(is_expression(("add", deep_expression(5), deep_expression(6))), False)
        self.same(is_expression(("add", deep_expression(6), deep_expression(1))), False)
        self.same(is_expression(deep_expression(5000)), False)

    def test_values(self):
        variables = {"a": 5, "b": -3, "c": 10 ** 39}
        for expression, wanted in [
                (7, 7), (-TRILLION, -TRILLION), ("a", 5), ("x", 0), (("add", "a", "b"), 2), (("sub", "a", "b"), 8),
                (("sub", "b", "a"), -8), (("less", "a", 6), 1), (("less", "a", 5), 0), (("less", 6, "a"), 0),
                (("equal", "a", 5), 1), (("equal", "a", 6), 0), (("equal", "x", "y"), 1), (("add", "c", "c"), 2 * 10 ** 39),
                (("sub", 1, ("add", "a", "b")), -1), (("add", ("less", 0, 1), ("equal", 0, 0)), 2),
                (("less", ("less", 1, 0), ("less", 0, 1)), 1), (deep_expression(6), 11)]:
            self.same(value_of(expression, variables), wanted)
            self.same(value_of(variables=variables, expression=expression), wanted)
        self.assertEqual(variables, {"a": 5, "b": -3, "c": 10 ** 39})
        self.same([value_of("a", {}), value_of(("less", "a", "b"), {})], [0, 0])


class InstructionTest(Checks):

    def right_instructions(self):
        """Yield instructions of each kind."""
        for word, kinds in KINDS.items():
            for at in range(4):
                yield (word, *[RIGHT[kind][at % len(RIGHT[kind])] for kind in kinds])

    def test_right_ones(self):
        for instruction in self.right_instructions():
            for program in [[instruction], [("out", 1), instruction, instruction], [("if", 1, [instruction], [])]]:
                self.same([is_program(program), first_problem(program)], [True, None])
        self.same([is_program([]), first_problem([])], [True, None])

    def check_wrong(self, instruction):
        self.same([is_program([instruction]), first_problem([instruction])], [False, (0,)])
        self.same(first_problem([("out", 1), ("if", 0, [("out", 2)], [("out", 3), instruction])]), (1, 3, 1))
        self.same(first_problem([("attempt", [instruction], "v", [5])]), (0, 1, 0))

    def test_each_part_wrong(self):
        wrong = {"object": NO_NAMES, "variable": NO_NAMES, "cells": NO_EXPRESSIONS, "index": NO_EXPRESSIONS,
                 "value": NO_EXPRESSIONS, "body": NO_BODIES, "other": NO_BODIES}
        for word, kinds in KINDS.items():
            for at, kind in enumerate(kinds):
                for value in wrong[kind]:
                    parts = [RIGHT[other][0] for other in kinds]
                    parts[at] = value
                    self.check_wrong((word, *parts))

    def test_wrong_counts_and_words(self):
        for instruction in self.right_instructions():
            for wrong in [instruction[:-1], instruction + (1,), instruction + ("a",), instruction + ([],),
                          list(instruction), ("other", *instruction[1:]), (instruction[0].upper(), *instruction[1:]),
                          ([instruction[0]], *instruction[1:]), instruction[1:], (None, *instruction[1:]),
                          (Odd(), *instruction[1:]), (instruction,), [instruction]]:
                # What is left of a short instruction can be another one.
                if plain_problem([wrong]) is not None:
                    self.check_wrong(wrong)
        for wrong in NO_INTEGERS + [0, "out", (), ("stop",), ("out",), [("out", 1)], (("out", 1),), {"out": 1}]:
            self.check_wrong(wrong)

    def test_values_that_are_no_lists(self):
        for value in NO_BODIES:
            self.same([is_program(value), first_problem(value), first_problem(value=value), is_program(value=value)],
                      [False, (), (), False])

    def test_depths(self):
        for word in ["repeat", "if", "attempt"]:
            for depth in range(1, 10):
                program, path = deep_program(depth, ("out", 1), word)
                self.same(first_problem(program), None if depth <= 6 else path[:13])
                self.same(is_program(program), depth <= 6)
        # An empty body of an instruction of depth 6 is no problem.
        self.same(first_problem(deep_program(6, ("if", 1, [], []))[0]), None)
        program, path = deep_program(6, ("if", 1, [], [("out", 1), 5]))
        self.same(first_problem(program), (*path, 3, 0))
        # Depths of instructions and of expressions do not add up.
        self.same(first_problem(deep_program(6, ("out", deep_expression(6)))[0]), None)
        program, path = deep_program(6, ("out", deep_expression(7)))
        self.same(first_problem(program), path)

    def test_counts(self):
        out = ("out", 1)
        self.same([first_problem([out] * 200), first_problem([out] * 201), first_problem([out] * 400)],
                  [None, (200,), (200,)])
        self.same([is_program([out] * 200), is_program([out] * 201)], [True, False])
        inner = [("repeat", 1, [out] * 99), ("if", 1, [out] * 50, [out] * 48)]
        self.same([first_problem(inner), first_problem(inner + [out])], [None, None])
        self.same([first_problem(inner + [out, out]), first_problem([out, out] + inner)], [(3,), (3, 3, 47)])
        self.same(first_problem([("if", 1, [out] * 150, [out] * 60)]), (0, 3, 49))
        # The 201st one is a problem, also behind others in bodies; an earlier problem comes first.
        self.same(first_problem([out] * 150 + [5] + [out] * 100), (150,))
        self.same(first_problem([out] * 200 + [5]), (200,))

    def test_the_first_of_several_problems(self):
        self.same(first_problem([("if", 1, [("out", 1), ("x",)], [("y",)]), ("z",)]), (0, 2, 1))
        self.same(first_problem([("if", 1, [("out", 1)], [("y",)]), ("z",)]), (0, 3, 0))
        self.same(first_problem([("if", 1, [("x",)], 5), ("z",)]), (0,))
        self.same(first_problem([("if", True, [("x",)], [])]), (0,))
        self.same(first_problem([("attempt", [("x",)], "V", [])]), (0,))
        self.same(first_problem([("attempt", [], "v", [("out", 1), ("x",)])]), (0, 3, 1))
        self.same(first_problem([("repeat", 1, [("repeat", 1, [("x",)]), ("y",)])]), (0, 2, 0, 2, 0))

    def test_programs_that_contain_themselves(self):
        program = [("out", 1)]
        program.append(("repeat", 1, program))
        self.same(first_problem(program), plain_problem(program))
        self.assertEqual(len(first_problem(program)), 13)

    def test_random_programs(self):
        source = random.Random(601)
        problems = 0
        for _ in range(3000):
            program = random_program(source, 4, source.choice([3, 8, 30]))
            for _ in range(source.randrange(3)):
                program = spoiled(source, program)
            wanted = plain_problem(program)
            self.same([first_problem(program), is_program(program)], [wanted, wanted is None])
            problems += wanted is not None
        self.assertTrue(1000 < problems < 2500)


def random_expression(source, depth=3):
    if depth == 1 or source.random() < 0.5:
        return source.choice([0, 1, 2, 3, -1, source.randrange(10), "n", "v", "w"])
    return (source.choice(["add", "sub", "less", "equal"]), random_expression(source, depth - 1),
            random_expression(source, depth - 1))


def random_instruction(source, depth, size):
    word = source.choice(list(KINDS)[:8] if depth == 1 else list(KINDS))
    parts = []
    for kind in KINDS[word]:
        if kind == "object":
            parts.append(source.choice(["a", "b", "c", "d"]))
        elif kind == "variable":
            parts.append(source.choice(["n", "v", "w", "level"]))
        elif kind in ("body", "other"):
            parts.append(random_program(source, depth - 1, size // 2))
        else:
            parts.append(random_expression(source))
    return (word, *parts)


def random_program(source, depth, size):
    return [random_instruction(source, depth, size) for _ in range(source.randrange(size + 1))]


def spoiled(source, value):
    """Return a copy of a program in which something, somewhere, is another value."""
    if isinstance(value, (list, tuple)) and value and source.random() < 0.8:
        at = source.randrange(len(value))
        parts = list(value)
        parts[at] = spoiled(source, parts[at])
        return parts if isinstance(value, list) else tuple(parts)
    if isinstance(value, (list, tuple)):
        return source.choice([list(value), tuple(value), [*value, ("out",)], value + type(value)([("out", 1)]), None])
    return source.choice([True, None, "A", "a", 5, [], ("out", 1), ("add", 1, 1), [("out", 1)], TRILLION + 1, 1])


if __name__ == "__main__":
    unittest.main()
