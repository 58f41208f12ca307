"""What the tests share: wrong values, and checks that do not take True for 1."""

import random
import unittest

from exactroom.layouts import Layout
from exactroom.sizes import Sizes


class Odd:
    """A value that equals everything, and that can be neither shown nor ordered."""

    def __eq__(self, other):
        return True

    def __repr__(self):
        raise RuntimeError("not to be shown")

    def __lt__(self, other):
        raise RuntimeError("not to be ordered")

    __le__ = __gt__ = __ge__ = __lt__
    __hash__ = None


# Values that are never an integer, whatever the range is.
NO_INTEGERS = [
    True, False, None, "", "1", "a", b"1", [], [1], [True], (), (1,), (False,), {}, {1: 2}, {"a": 1},
    set(), frozenset(), range(3), object(), Odd(), int, len, Ellipsis, NotImplemented,
]
NO_CELLS = NO_INTEGERS + [0, -1, -5, -(10 ** 12), 10 ** 12 + 1, 10 ** 30]
NO_ADDRESSES = NO_INTEGERS + [-1, -2, -(10 ** 12), -(10 ** 30)]
NO_LISTS = [value for value in NO_INTEGERS if not isinstance(value, list)] + [0, 1, -1, (1, 2), (1, 2, 4), {1: 1}]
# Neither a name nor an integer in the last ones.
NO_NAMES = [value for value in NO_INTEGERS if value != "a" or isinstance(value, Odd)]
NO_NAMES += [0, 1, -1, "A", "aB", "abcdefghi", "a b", "a1", " a", "a\n", "a_b", ["a"], ("a",), {"a": "a"}]
NO_STRINGS = [value for value in NO_INTEGERS if not isinstance(value, str)] + [0, 1, -1, ["1"], ("1",), {"1": "1"}]


def no_levels(sizes):
    """Return values that are no level of the sizes."""
    return NO_INTEGERS + [-1, -2, len(sizes), len(sizes) + 1, 10 ** 12, 10 ** 30]


class Checks(unittest.TestCase):
    """A test case with checks that look at the kinds of values, too."""

    def same(self, found, wanted):
        """Check that two values are equal and of the same kinds throughout."""
        self.assertEqual((found, repr(found)), (wanted, repr(wanted)))
        self.assertIs(type(found), type(wanted))

    def refused(self, error, attributes, call, *parts, **more):
        """Check that a call raises this very error, with exactly these attributes."""
        with self.assertRaises(error) as caught:
            call(*parts, **more)
        self.assertIs(type(caught.exception), error)
        found = dict(vars(caught.exception))
        self.assertEqual(sorted(found), sorted(attributes))
        for name in attributes:
            self.assertIs(type(found[name]), type(attributes[name]))
            if found[name] is not attributes[name]:
                self.assertEqual(found[name], attributes[name])

    def refused_value(self, error, value, call, *parts, **more):
        """Check that a call raises this very error with the very value that was passed."""
        with self.assertRaises(error) as caught:
            call(*parts, **more)
        self.assertIs(type(caught.exception), error)
        self.assertEqual(list(vars(caught.exception)), ["value"])
        self.assertIs(caught.exception.value, value)


def value_of(value):
    """Return the attributes of the errors that tell about a value."""
    return {"value": value}


class Faults:
    """The errors of one call, in the sequence in which they are listed, each with arguments that lead to it."""

    def __init__(self, case, call, good, state, by_name=()):
        self.case = case
        self.call = call
        # Arguments that are all right, in the sequence of the parameters, and those that must be passed by name.
        self.good = good
        self.by_name = by_name
        # A function that returns what must not change, nor equal anything else.
        self.state = state
        self.rows = []

    def add(self, error, attributes, parameter, values):
        """Add an error with its attributes, or a function that returns them, and the values of a parameter."""
        self.rows += [(error, attributes if callable(attributes) else lambda value, told=attributes: told,
                       parameter, value) for value in values]

    def call_with(self, arguments, error, attributes):
        parts = [arguments[name] for name in arguments if name not in self.by_name]
        more = {name: arguments[name] for name in self.by_name if name in arguments}
        before = self.state()
        self.case.refused(error, attributes, self.call, *parts, **more)
        backwards = {name: arguments[name] for name in reversed(list(arguments))}
        self.case.refused(error, attributes, self.call, **backwards)
        self.case.assertTrue(self.state() == before)

    def check(self, seed=1):
        """Check each error alone, together with one of each later parameter, and together with some of them."""
        source = random.Random(seed)
        for at, (error, attributes, parameter, value) in enumerate(self.rows):
            later = [row for row in self.rows[at + 1:] if row[2] != parameter]
            for share in (0, 1, 0.5):
                arguments = dict(self.good)
                for row in source.sample(later, len(later)):
                    if source.random() < share:
                        arguments[row[2]] = row[3]
                arguments[parameter] = value
                with self.case.subTest(error=error.__name__, parameter=parameter, at=at, share=share):
                    self.call_with(arguments, error, attributes(value))


class LayoutCase(Checks):
    """A test case with the layout of the examples of moves, room and rest, which no call may change."""

    def setUp(self):
        self.layout = Layout(Sizes([1, 2, 4, 8]), 8)
        for address in [1, 3, 4, 6]:
            self.layout.put(0, address)
        self.before = repr(self.layout)

    def tearDown(self):
        self.assertEqual(repr(self.layout), self.before)
        self.same(self.layout.free, 4)
