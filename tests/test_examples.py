"""The examples of the interface, as they stand in the document.

In examples.txt a section begins with its title; then come the lines with which each of its examples begins, or
"(no lines)"; then the examples. Only the value of the last line of an example is shown, or the error that it raises.
"""

import ast
import pathlib
import unittest

from exactroom import errors
from tests.checks import Checks

TEXT = (pathlib.Path(__file__).resolve().parent / "examples.txt").read_text(encoding="utf-8")
PROMPT = ">>> "
COUNT = 102


def sections():
    """Return tuples (title, lines at the start, examples)."""
    found = []
    for part in TEXT.split("## ")[1:]:
        title, start, *examples = part.strip("\n").split("\n\n")
        found.append((title, "" if start == "(no lines)" else start, examples))
    return found


def code_of(text):
    return [line[len(PROMPT):] for line in text.split("\n") if line.startswith(PROMPT)]


def shown_by(text):
    return "\n".join(line for line in text.split("\n") if not line.startswith(PROMPT))


def executed(lines):
    """Execute lines, and return the value of the last one, or None if it has none."""
    names = {}
    for line in lines[:-1]:
        exec(line, names)
    last = ast.parse(lines[-1]).body[0]
    if isinstance(last, ast.Expr):
        return eval(lines[-1], names)
    exec(lines[-1], names)
    return None


class ExamplesTest(Checks):

    def check_error(self, shown, lines):
        """Check that the last line raises the error that is shown with its attributes."""
        call = ast.parse(shown.removeprefix("raises "), mode="eval").body
        if isinstance(call, ast.Name):
            name, attributes = call.id, {}
        else:
            name = call.func.id
            attributes = {keyword.arg: ast.literal_eval(keyword.value) for keyword in call.keywords}
        self.refused(vars(errors)[name], attributes, executed, lines)

    def check(self, start, example):
        lines = code_of(start) + code_of(example)
        shown = shown_by(example)
        if shown.startswith("raises "):
            self.check_error(shown, lines)
        elif shown:
            self.assertEqual(repr(executed(lines)), shown)
        else:
            executed(lines)

    def test_all_examples(self):
        count = 0
        for title, start, examples in sections():
            for example in examples:
                with self.subTest(title, example=example):
                    self.check(start, example)
                    count += 1
        self.assertEqual(count, COUNT)


if __name__ == "__main__":
    unittest.main()
