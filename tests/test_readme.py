"""The examples of README.md."""

import doctest
import pathlib
import unittest

README = pathlib.Path(__file__).resolve().parent.parent / "README.md"


class ReadmeTest(unittest.TestCase):

    def test_examples(self):
        lines = README.read_text(encoding="utf-8").splitlines()
        # The line that ends an example must not be taken for a part of what it shows.
        text = "\n".join("" if line.startswith("```") else line for line in lines) + "\n"
        test = doctest.DocTestParser().get_doctest(text, {}, "README.md", "README.md", 0)
        self.assertTrue(len(test.examples) > 20)
        self.assertEqual(doctest.DocTestRunner().run(test).failed, 0)


if __name__ == "__main__":
    unittest.main()
