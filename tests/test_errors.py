"""The error classes: their attributes, their arguments, and their bases."""

import unittest

from exactroom import errors
from exactroom.errors import NoRoom
from tests.checks import Checks, Odd

WITH_VALUE = ("value",)
RAISED = {
    ValueError: {"RoomError": ()},
    errors.RoomError: {
        "InvalidSizes": ("problem", "position"), "InvalidLevel": WITH_VALUE, "InvalidNumber": WITH_VALUE,
        "InvalidNumbers": ("position",), "InvalidAddress": WITH_VALUE, "InvalidName": WITH_VALUE,
        "InvalidIndex": WITH_VALUE, "InvalidValue": WITH_VALUE, "InvalidMoves": ("position",),
        "InvalidCount": WITH_VALUE, "InvalidRequests": ("position",), "InvalidProgram": ("task", "path"),
        "InvalidText": ("line",), "InvalidOperation": (), "InvalidCommand": (),
    },
    LookupError: {
        "UnknownBlock": WITH_VALUE, "UnknownName": WITH_VALUE, "UnknownTask": WITH_VALUE, "UnknownTime": WITH_VALUE,
    },
    RuntimeError: {
        "Occupied": ("address",), "NameTaken": ("name",), "Pinned": ("name",), "NotPinned": ("name",),
        "NoReservation": ("owner",), "NotReady": ("task",),
    },
    ArithmeticError: {"NoRoom": ("level",), "TooManyPieces": ("limit",)},
}
BASES = {name: base for base, names in RAISED.items() for name in names}
ATTRIBUTES = {name: parts for names in RAISED.values() for name, parts in names.items()}
GIVEN = [(3, "x"), ("multiple", 3), ("", ()), ("ann", (0, 3, 0)), (None, True), ([1], {"a": 2}), (Odd(), object())]


class ErrorsTest(Checks):

    def test_example(self):
        self.same(NoRoom(2).level, 2)

    def test_all_classes_are_there_and_no_others(self):
        found = [name for name, value in vars(errors).items() if isinstance(value, type)]
        self.assertEqual(sorted(found), sorted(BASES))
        self.assertEqual(len(found), 28)

    def test_each_class_has_one_direct_base(self):
        for name, base in BASES.items():
            with self.subTest(name):
                self.assertEqual(getattr(errors, name).__bases__, (base,))

    def test_no_class_is_a_subclass_of_another_one_but_of_room_error(self):
        for name in BASES:
            for other in BASES:
                wanted = name == other or (other == "RoomError" and BASES[name] is errors.RoomError)
                with self.subTest(name=name, other=other):
                    self.assertIs(issubclass(getattr(errors, name), getattr(errors, other)), wanted)

    def test_families_of_python_are_kept_apart(self):
        families = [ValueError, LookupError, RuntimeError, ArithmeticError]
        for name, base in BASES.items():
            for family in families:
                with self.subTest(name=name, family=family):
                    self.assertIs(issubclass(getattr(errors, name), family), issubclass(base, family))

    def test_arguments_by_position(self):
        for name, parts in ATTRIBUTES.items():
            for values in GIVEN if parts else []:
                with self.subTest(name):
                    self.check_attributes(getattr(errors, name)(*values[:len(parts)]), parts, values)

    def test_arguments_by_name(self):
        for name, parts in ATTRIBUTES.items():
            for values in GIVEN if parts else []:
                with self.subTest(name):
                    given = dict(zip(parts, values))
                    self.check_attributes(getattr(errors, name)(**given), parts, values)
                    backwards = dict(reversed(list(given.items())))
                    self.check_attributes(getattr(errors, name)(**backwards), parts, values)

    def check_attributes(self, error, parts, values):
        self.assertEqual(sorted(vars(error)), sorted(parts))
        for part, value in zip(parts, values):
            self.assertIs(getattr(error, part), value)

    def test_wrong_numbers_and_names_of_arguments(self):
        for name, parts in ATTRIBUTES.items():
            if parts:
                with self.subTest(name):
                    self.assertRaises(TypeError, getattr(errors, name))
                    self.assertRaises(TypeError, getattr(errors, name), *[1] * (len(parts) + 1))
                    self.assertRaises(TypeError, getattr(errors, name), **{"other" + part: 1 for part in parts})

    def test_classes_without_attributes_take_a_message(self):
        for name, parts in ATTRIBUTES.items():
            if not parts:
                with self.subTest(name):
                    error = getattr(errors, name)("what is wrong")
                    self.assertEqual((str(error), vars(error)), ("what is wrong", {}))

    def test_errors_can_be_raised_and_caught_by_their_base(self):
        for name, base in BASES.items():
            with self.subTest(name):
                with self.assertRaises(base):
                    raise getattr(errors, name)(*["x"] * len(ATTRIBUTES[name]))


if __name__ == "__main__":
    unittest.main()
