"""The class Sizes: its lists, its values, and the other ways to create one."""

import unittest

from exactroom.errors import InvalidCount, InvalidLevel, InvalidSizes, InvalidText
from exactroom.sizes import Sizes, is_cells, is_integer, is_name
from tests.checks import NO_CELLS, NO_INTEGERS, NO_LISTS, NO_STRINGS, Checks, Odd, no_levels

BILLION = 10 ** 9
RIGHT_LISTS = [
    [1], [1, 2], [1, 3], [1, BILLION], [1, 2, 4, 8], [1, 10, 100], [1, 2, 6, 12, 60], [1, 7, 49, 98],
    [1, 2, 4, 8, 16, 32, 64, 128], [1, 10, 100, 1000, 10 ** 4, 10 ** 5, 10 ** 6, BILLION],
]


class KindsTest(Checks):

    def test_example(self):
        found = [is_integer(-2), is_name("ab"), is_name("aB"), is_cells(12), is_cells(0), is_cells(True)]
        self.same(found, [True, True, False, True, False, False])

    def test_integers(self):
        for value in [0, 1, -1, 2, 10 ** 12, -(10 ** 12), 10 ** 39]:
            self.assertIs(is_integer(value), True)
            self.assertIs(is_integer(value=value), True)

    def test_other_values_are_no_integers(self):
        for value in NO_INTEGERS:
            self.assertIs(is_integer(value), False)

    def test_names(self):
        letters = "abcdefghijklmnopqrstuvwxyz"
        for value in list(letters) + ["ab", "zz", "abcdefgh", "stuvwxyz", "ijklmnop", "qr", "zzzzzzzz"]:
            self.assertIs(is_name(value), True)
            self.assertIs(is_name(value=value), True)

    def test_strings_that_are_no_names(self):
        for value in ["", "abcdefghi", "a" * 20000, "A", "aB", "Ba", "a b", " a", "a ", "a\n", "\na", "a1", "1", "-"]:
            self.assertIs(is_name(value), False, repr(value))
        for number in list(range(32, 97)) + list(range(123, 127)) + [10]:
            self.assertIs(is_name(chr(number)), False)
            self.assertIs(is_name("a" + chr(number)), False)

    def test_other_values_are_no_names(self):
        for value in NO_STRINGS + [["a"], ("a",), {"a": 1}, b"a", ["a", "b"]]:
            self.assertIs(is_name(value), False)

    def test_numbers_of_cells(self):
        for value in [1, 2, 64, 10 ** 9, 10 ** 12 - 1, 10 ** 12]:
            self.assertIs(is_cells(value), True)
            self.assertIs(is_cells(value=value), True)

    def test_other_values_are_no_numbers_of_cells(self):
        for value in NO_CELLS:
            self.assertIs(is_cells(value), False)


class SizesTest(Checks):

    def setUp(self):
        self.sizes = Sizes([1, 2, 4, 8])

    def test_examples(self):
        sizes = self.sizes
        found = [len(sizes), sizes == Sizes([1, 2, 4, 8]), sizes == Sizes([1, 2]), sizes]
        self.assertEqual(repr(found), "[4, True, False, Sizes([1, 2, 4, 8])]")
        found = [Sizes.MAX_SIZES, Sizes.MAX_SIZE, Sizes.MAX_CELLS, Sizes.MAX_PIECES]
        self.same(found, [8, 1000000000, 1000000000000, 64])
        self.refused(InvalidSizes, {"problem": "multiple", "position": 3}, Sizes, [1, 2, 6, 8])
        self.same([sizes.top, sizes.all_sizes(), sizes.size(2)], [3, [1, 2, 4, 8], 4])
        self.refused_value(InvalidLevel, 4, sizes.size, 4)

    def test_class_values_of_an_object(self):
        sizes = self.sizes
        self.same([sizes.MAX_SIZES, sizes.MAX_SIZE, sizes.MAX_CELLS, sizes.MAX_PIECES], [8, BILLION, 10 ** 12, 64])

    def test_right_lists(self):
        for values in RIGHT_LISTS:
            with self.subTest(values):
                sizes = Sizes(list(values))
                self.same(sizes.all_sizes(), values)
                self.same(Sizes(values=list(values)).all_sizes(), values)
                self.same([len(sizes), sizes.top], [len(values), len(values) - 1])
                self.same(repr(sizes), "Sizes(" + repr(values) + ")")
                self.same([sizes.size(level) for level in range(len(values))], values)
                self.same([sizes.size(level=level) for level in range(len(values))], values)

    def wrong(self, problem, position, values):
        with self.subTest(values=values):
            self.refused(InvalidSizes, {"problem": problem, "position": position}, Sizes, values)
            self.refused(InvalidSizes, {"problem": problem, "position": position}, Sizes, values=values)

    def test_values_that_are_no_lists(self):
        for value in NO_LISTS:
            self.refused(InvalidSizes, {"problem": "list", "position": 0}, Sizes, value)
        self.refused(InvalidSizes, {"problem": "list", "position": 0}, Sizes, Sizes([1, 2]))

    def test_elements_that_are_no_numbers(self):
        for value in NO_INTEGERS + [0, -1, -2, BILLION + 1, 10 ** 12, 10 ** 30, -BILLION]:
            for before in [[], [1], [1, 2], [1, 2, 4, 8, 16, 32, 64]]:
                for after in [[], [2], [0], [True]]:
                    wanted = {"problem": "number", "position": len(before)}
                    self.refused(InvalidSizes, wanted, Sizes, before + [value] + after)

    def test_the_largest_size(self):
        self.same(Sizes([1, BILLION]).size(1), BILLION)
        self.wrong("number", 1, [1, BILLION + 1])
        self.wrong("number", 0, [BILLION + 1])
        self.wrong("first", 0, [BILLION])
        self.wrong("number", 2, [1, BILLION // 2, BILLION * 2])

    def test_a_first_one_that_is_not_one(self):
        for values in [[2], [2, 4], [3, 1], [8, 4, 2, 1], [2, 0], [2, True], [2, 3]]:
            self.wrong("first", 0, values)

    def test_elements_that_are_no_multiples(self):
        self.wrong("multiple", 1, [1, 1])
        self.wrong("multiple", 2, [1, 2, 2])
        self.wrong("multiple", 2, [1, 2, 3])
        self.wrong("multiple", 2, [1, 4, 2])
        self.wrong("multiple", 2, [1, 2, 1])
        self.wrong("multiple", 3, [1, 2, 6, 9])
        self.wrong("multiple", 7, [1, 2, 4, 8, 16, 32, 64, 127])
        # A multiple of an earlier one is not enough.
        self.wrong("multiple", 3, [1, 2, 6, 8])

    def test_counts_of_sizes(self):
        self.wrong("count", 0, [])
        powers = [1]
        for _ in range(29):
            powers.append(2 * powers[-1])
        for count in range(9, 31):
            self.wrong("count", 0, powers[:count])
        self.assertEqual(len(Sizes(powers[:8])), 8)
        self.assertEqual(len(Sizes(powers[:1])), 1)

    def test_the_first_invalid_element_decides(self):
        self.wrong("number", 1, [1, 0, 3, 2])
        self.wrong("multiple", 1, [1, 1, 0])
        self.wrong("multiple", 2, [1, 2, 3, True])
        self.wrong("number", 2, [1, 2, False, 3])
        self.wrong("first", 0, [3, 3])
        self.wrong("number", 0, [True, 1])
        self.wrong("number", 0, [0, 0])
        self.wrong("number", 1, [1, True])
        self.wrong("number", 2, [1, 10, BILLION + 1, 11])

    def test_the_count_comes_last(self):
        nine = [1, 2, 4, 8, 16, 32, 64, 128, 256]
        self.wrong("number", 8, nine[:8] + [True])
        self.wrong("multiple", 8, nine[:8] + [128])
        self.wrong("multiple", 9, nine + [300])
        self.wrong("number", 9, nine + [None])
        self.wrong("first", 0, [2] + nine)
        self.wrong("number", 0, [0] + nine)
        self.wrong("multiple", 1, [1] * 400)
        self.wrong("number", 30, [1 << k for k in range(31)])

    def test_equality_of_sizes(self):
        for one in RIGHT_LISTS:
            for other in RIGHT_LISTS:
                self.assertIs(Sizes(one) == Sizes(other), one == other)
                self.assertIs(Sizes(one) != Sizes(other), one != other)

    def test_no_other_value_is_equal(self):
        sizes = Sizes([1])
        for value in NO_INTEGERS + [1, [1], (1,), {1: 1}, {1}, "Sizes([1])", Odd(), Sizes]:
            self.assertIs(sizes == value, False)
            self.assertIs(sizes != value, True)

    def test_the_passed_list_is_copied_and_not_changed(self):
        values = [1, 2, 4]
        sizes = Sizes(values)
        self.same(values, [1, 2, 4])
        values.append(5)
        values[1] = 0
        self.same([sizes.all_sizes(), len(sizes), sizes.top, sizes.size(1)], [[1, 2, 4], 3, 2, 2])
        self.assertEqual(sizes, Sizes([1, 2, 4]))

    def test_wrong_lists_are_not_changed(self):
        for values in [[], [2, 4], [1, [1]], [1, {"a": 2}, 3], [1, 2, 2], [1] * 9]:
            before = repr(values)
            self.assertRaises(InvalidSizes, Sizes, values)
            self.assertEqual(repr(values), before)

    def test_returned_lists_are_new(self):
        found = self.sizes.all_sizes()
        found.append(16)
        found[0] = 7
        self.same(self.sizes.all_sizes(), [1, 2, 4, 8])
        self.assertIsNot(self.sizes.all_sizes(), self.sizes.all_sizes())
        self.assertEqual(self.sizes, Sizes([1, 2, 4, 8]))

    def test_values_that_are_no_levels(self):
        for values in RIGHT_LISTS:
            sizes = Sizes(values)
            for value in no_levels(sizes):
                self.refused_value(InvalidLevel, value, sizes.size, value)
                self.refused_value(InvalidLevel, value, sizes.size, level=value)

    def test_top_is_a_property(self):
        self.assertIsInstance(vars(Sizes)["top"], property)
        with self.assertRaises(AttributeError):
            self.sizes.top = 1

    def test_queries_can_be_repeated(self):
        sizes = self.sizes
        for _ in range(3):
            self.same([len(sizes), sizes.top, sizes.size(3), sizes.all_sizes()], [4, 3, 8, [1, 2, 4, 8]])
            self.same(repr(sizes), "Sizes([1, 2, 4, 8])")

    def test_methods_stand_in_the_class_itself(self):
        for name in ["__eq__", "__len__", "__repr__", "doubling", "from_text", "top", "all_sizes", "size",
                     "level_of", "whole", "counts", "pieces"]:
            self.assertIn(name, vars(Sizes))


class DoublingTest(Checks):

    def test_example(self):
        self.same(Sizes.doubling(4) == Sizes([1, 2, 4, 8]), True)

    def test_all_counts(self):
        powers = [1, 2, 4, 8, 16, 32, 64, 128]
        for count in range(1, 9):
            self.same(Sizes.doubling(count).all_sizes(), powers[:count])
            self.same(Sizes.doubling(count=count).all_sizes(), powers[:count])
            self.assertIs(type(Sizes.doubling(count)), Sizes)

    def test_off_an_object(self):
        self.same(Sizes([1]).doubling(2).all_sizes(), [1, 2])

    def test_wrong_counts(self):
        for value in NO_INTEGERS + [0, 9, 10, -1, -8, 64, 10 ** 30]:
            self.refused_value(InvalidCount, value, Sizes.doubling, value)
            self.refused_value(InvalidCount, value, Sizes.doubling, count=value)


class FromTextTest(Checks):

    def test_examples(self):
        self.same(repr(Sizes.from_text("1 10 100")), "Sizes([1, 10, 100])")
        self.refused(InvalidText, {"line": 1}, Sizes.from_text, "1 02")

    def test_right_texts(self):
        for values in RIGHT_LISTS:
            text = " ".join(str(value) for value in values)
            self.same(Sizes.from_text(text).all_sizes(), values)
            self.same(Sizes.from_text(text=text).all_sizes(), values)
            self.assertIs(type(Sizes.from_text(text)), Sizes)

    def test_off_an_object(self):
        self.same(Sizes([1]).from_text("1 2").all_sizes(), [1, 2])

    def test_texts_of_another_form(self):
        for text in ["", " ", "  ", " 1", "1 ", "1  2", "1\n", "\n1", "1\n2", "1 2\n", "1,2", "1, 2", "+1", "1 +2",
                     "-1", "1 -2", "01", "1 02", "1 002", "00", "1 00", "0x1", "1 2a", "a", "one", "1 2.", "1 2.0",
                     "[1, 2]", "1_0", "1 1_0", "1 1e1", "1;2", "1\t2", "--", "1 -0", "Sizes([1])"]:
            with self.subTest(text):
                self.refused(InvalidText, {"line": 1}, Sizes.from_text, text)
                self.refused(InvalidText, {"line": 1}, Sizes.from_text, text=text)

    def test_numbers_that_are_no_sizes(self):
        for text in ["0", "2", "0 1", "1 0", "1 1", "2 4", "1 2 3", "1 4 2", "1 1000000001", "1 2 4 6",
                     "1 10000000000", "1 2 4 8 16 32 64 128 256", "1 " + "9" * 40, "1 " + "10" * 3000]:
            with self.subTest(text):
                self.refused(InvalidText, {"line": 1}, Sizes.from_text, text)

    def test_values_that_are_no_strings(self):
        for value in NO_STRINGS + [[1], [1, 2], Sizes([1])]:
            self.refused(InvalidText, {"line": 0}, Sizes.from_text, value)
            self.refused(InvalidText, {"line": 0}, Sizes.from_text, text=value)


if __name__ == "__main__":
    unittest.main()
