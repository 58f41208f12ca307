"""The rules of the language subset that can be checked by reading the files of the package."""

import ast
import builtins
import pathlib
import re
import unittest

PACKAGE = pathlib.Path(__file__).resolve().parent.parent / "exactroom"
ALLOWED = set("""
    len range enumerate zip min max sum abs sorted reversed int str bool bytes list tuple dict set frozenset isinstance
    ord repr any all divmod iter next super property staticmethod classmethod NotImplemented Exception ValueError
    TypeError KeyError IndexError LookupError ZeroDivisionError ArithmeticError OverflowError RuntimeError
    NotImplementedError AttributeError StopIteration
""".split())
BARRED = set("""
    type typing typing_extensions enum Enum IntEnum StrEnum Flag IntFlag Generic Protocol ABC ABCMeta namedtuple
    NamedTuple TypedDict TYPE_CHECKING abstractmethod
""".split())
SPECIAL = set("__init__ __eq__ __repr__ __str__ __len__ __enter__ __exit__ __call__ __iter__".split())
METHODS = set("""
    append clear copy count endswith extend find get index insert isalnum isalpha isdigit islower isspace isupper items
    join keys ljust lower lstrip partition pop remove replace reverse rfind rjust rpartition rsplit rstrip setdefault
    split splitlines startswith strip update upper values zfill bit_length add discard
""".split())
BUILTIN_VALUES = ["", b"", 0, [], (), {}, set()]
FUNCTIONS = (ast.FunctionDef, ast.Lambda)
# The methods and properties that the interface lists for each class.
INTERFACE = {
    "Sizes": "doubling from_text top all_sizes size level_of whole counts pieces __eq__ __len__ __repr__",
    "Layout": """sizes length free blocks put take_out set_pinned block_at free_runs free_regions free_addresses
        clear_cells unpinned_cells slack short_level fits largest clone __eq__ __len__ __repr__""",
    "Memory": """sizes capacity names cells addresses pins set_length layout slack largest request release resize read
        write stored copy_cells pin unpin address_of owner_of is_at_rest settle clone __eq__ __len__ __repr__""",
    "Shared": """names cells addresses pins layout release read write stored copy_cells unpin address_of owner_of
        is_at_rest settle kept reservations reserve withdraw request request_all resize pin set_length slack largest
        pins_in_the_way plain clone __eq__ __len__ __repr__""",
    "Journal": "time shared operations clone perform perform_all undo address_now address_then __eq__ __len__",
    "Machine": "__init__ tasks status variables step run outputs shared settle clone",
    "Desk": "__init__ execute run history journal",
}


def files():
    return sorted(path for path in PACKAGE.rglob("*") if "__pycache__" not in path.parts)


class LanguageTest(unittest.TestCase):

    def each(self):
        for path in files():
            text = path.read_text(encoding="utf-8")
            with self.subTest(path.name):
                yield path, text, ast.parse(text)

    def test_files(self):
        self.assertIn(PACKAGE / "__init__.py", files())
        for path in files():
            self.assertRegex(path.name, r"\A([a-z][a-z0-9_]*|__init__|__main__)\.py\Z")
            self.assertFalse(path.name.startswith("test"))

    def test_characters_and_lengths(self):
        for path, text, _ in self.each():
            self.assertRegex(text, r"\A[ -~\n]*\Z")
            self.assertLessEqual(len(text.splitlines()), 399)
            self.assertLessEqual(max(len(line) for line in text.splitlines()), 120)

    def test_functions_are_short(self):
        for _, _, tree in self.each():
            for node in ast.walk(tree):
                if isinstance(node, ast.FunctionDef):
                    self.assertLessEqual(node.end_lineno - node.lineno + 1, 40, node.name)

    def test_barred_words(self):
        for _, text, _ in self.each():
            self.assertEqual(BARRED & set(re.findall(r"\w+", text)), set())
            self.assertNotRegex(text, "dataclass|overload|contextmanager")

    def test_imports_name_the_package(self):
        for _, _, tree in self.each():
            for node in ast.walk(tree):
                self.assertNotIsInstance(node, ast.Import)
                if isinstance(node, ast.ImportFrom):
                    self.assertIn(node, tree.body)
                    self.assertEqual(node.level, 0)
                    self.assertTrue(node.module == "__future__" or node.module.startswith("exactroom."), node.module)

    def test_names(self):
        for _, _, tree in self.each():
            for node in ast.walk(tree):
                if isinstance(node, ast.Name):
                    self.assertFalse(node.id.startswith("_"), node.id)
                    self.assertTrue(node.id in ALLOWED or node.id not in vars(builtins), node.id)
                if isinstance(node, ast.FunctionDef):
                    self.assertTrue(node.name in SPECIAL or not node.name.startswith("_"), node.name)
                    self.assertNotIn(node.name, ALLOWED)
                if isinstance(node, ast.arg):
                    self.assertNotIn(node.arg, vars(builtins))

    def test_expressions_and_statements(self):
        barred = (ast.Div, ast.Global, ast.AsyncFunctionDef, ast.Await, ast.AsyncFor, ast.AsyncWith)
        for _, _, tree in self.each():
            for node in ast.walk(tree):
                self.assertNotIsInstance(node, barred)
                if isinstance(node, ast.Constant):
                    self.assertNotIsInstance(node.value, (float, complex))
                    self.assertNotIn("%", node.value if isinstance(node.value, str) else "")
                if isinstance(node, FUNCTIONS):
                    self.assertEqual(node.args.posonlyargs, [])

    def test_no_name_hides_a_builtin_an_import_or_a_class(self):
        for _, _, tree in self.each():
            taken = set(vars(builtins)) | {node.name for node in tree.body if isinstance(node, ast.ClassDef)}
            for node in tree.body:
                if isinstance(node, ast.ImportFrom):
                    taken |= {alias.asname or alias.name for alias in node.names}
            for node in ast.walk(tree):
                if isinstance(node, ast.Name) and isinstance(node.ctx, ast.Store):
                    self.assertNotIn(node.id, taken)
                if isinstance(node, ast.arg):
                    self.assertNotIn(node.arg, taken)

    def own_names(self):
        """Return the names of the methods, of the properties, and of the attributes of the classes of the package."""
        methods, properties, attributes = set(), set(), set()
        for path in files():
            for node in ast.walk(ast.parse(path.read_text(encoding="utf-8"))):
                if isinstance(node, ast.ClassDef):
                    for part in node.body:
                        if isinstance(part, ast.FunctionDef):
                            marks = [getattr(mark, "id", "") for mark in part.decorator_list]
                            (properties if "property" in marks else methods).add(part.name)
                if isinstance(node, ast.Attribute) and isinstance(node.ctx, ast.Store):
                    attributes.add(node.attr)
        return methods, properties, attributes

    def test_methods_properties_and_attributes_have_different_names(self):
        methods, properties, attributes = self.own_names()
        self.assertEqual([methods & attributes, methods & properties, properties & attributes], [set(), set(), set()])
        for name in methods - SPECIAL | properties | attributes:
            self.assertFalse(any(hasattr(value, name) for value in BUILTIN_VALUES), name)

    def test_called_methods(self):
        methods, _, _ = self.own_names()
        for _, _, tree in self.each():
            for node in ast.walk(tree):
                if isinstance(node, ast.Call) and isinstance(node.func, ast.Attribute):
                    self.assertIn(node.func.attr, methods | METHODS)

    def test_no_generator_expressions(self):
        # A class has __eq__, so that any, all, min, max, sum and sorted take lists.
        for _, _, tree in self.each():
            for node in ast.walk(tree):
                self.assertNotIsInstance(node, ast.GeneratorExp)

    def test_interface_stands_in_its_files(self):
        wanted = {
            "sizes": ["Sizes", "is_integer", "is_name", "is_cells"],
            "regions": ["is_region", "region_start", "count_regions", "maximal_runs"], "layouts": ["Layout"],
            "moves": ["is_rearrangement", "rearranged", "cost", "moved_level", "inverse", "composed",
                      "cheapest_region"],
            "room": ["room", "limit", "chosen_addresses", "is_room"],
            "rest": ["rest_counts", "is_at_rest", "settling_moves"], "lengths": ["shortening_moves"],
            "memory": ["Memory"], "shared": ["Shared"], "journal": ["Journal"],
            "programs": ["is_expression", "is_program", "first_problem", "value_of"], "machine": ["Machine"],
            "texts": ["dump_shared", "load_shared"], "desk": ["Desk"],
        }
        for path, _, tree in self.each():
            defined = [node.name for node in tree.body if isinstance(node, (ast.FunctionDef, ast.ClassDef))]
            for name in wanted.pop(path.stem, []):
                self.assertIn(name, defined)
        self.assertEqual(wanted, {})

    def test_interface_methods_stand_in_their_classes(self):
        wanted = {name: set(methods.split()) for name, methods in INTERFACE.items()}
        for _, _, tree in self.each():
            for node in tree.body:
                if isinstance(node, ast.ClassDef) and node.name in wanted:
                    defined = {part.name for part in node.body if isinstance(part, ast.FunctionDef)}
                    self.assertEqual(wanted.pop(node.name) - defined, set())
        self.assertEqual(wanted, {})

    def test_generators(self):
        # Both classes of memories list this generator; otherwise the name of a generator is that of one function.
        found = []
        for _, _, tree in self.each():
            for node in ast.walk(tree):
                if isinstance(node, ast.FunctionDef) and any(isinstance(part, (ast.Yield, ast.YieldFrom))
                                                             for part in ast.walk(node)):
                    found.append(node.name)
        self.assertEqual(sorted(found), ["free_addresses", "stored", "stored"])

    def test_is_stands_with_constants_only(self):
        for _, _, tree in self.each():
            for node in ast.walk(tree):
                if isinstance(node, ast.Compare) and isinstance(node.ops[0], (ast.Is, ast.IsNot)):
                    self.assertIn(getattr(node.comparators[0], "value", "other"), (None, True, False))


if __name__ == "__main__":
    unittest.main()
