"""What the tests share: wrong values, and checks that do not take True for 1."""

import unittest

from exactroom.layouts import Layout
from exactroom.sizes import Sizes


class Odd:
    """A value that equals everything, and that can be neither shown nor ordered."""

    def __eq__(self, other):
        return True

    def __repr__(self):
        raise RuntimeError("not to be shown")

    def __lt__(self, other):
        raise RuntimeError("not to be ordered")

    __le__ = __gt__ = __ge__ = __lt__
    __hash__ = None


# Values that are never an integer, whatever the range is.
NO_INTEGERS = [
    True, False, None, "", "1", "a", b"1", [], [1], [True], (), (1,), (False,), {}, {1: 2}, {"a": 1},
    set(), frozenset(), range(3), object(), Odd(), int, len, Ellipsis, NotImplemented,
]
NO_CELLS = NO_INTEGERS + [0, -1, -5, -(10 ** 12), 10 ** 12 + 1, 10 ** 30]
NO_ADDRESSES = NO_INTEGERS + [-1, -2, -(10 ** 12), -(10 ** 30)]
NO_LISTS = [value for value in NO_INTEGERS if not isinstance(value, list)] + [0, 1, -1, (1, 2), (1, 2, 4), {1: 1}]
NO_STRINGS = [value for value in NO_INTEGERS if not isinstance(value, str)] + [0, 1, -1, ["1"], ("1",), {"1": "1"}]


def no_levels(sizes):
    """Return values that are no level of the sizes."""
    return NO_INTEGERS + [-1, -2, len(sizes), len(sizes) + 1, 10 ** 12, 10 ** 30]


class Checks(unittest.TestCase):
    """A test case with checks that look at the kinds of values, too."""

    def same(self, found, wanted):
        """Check that two values are equal and of the same kinds throughout."""
        self.assertEqual((found, repr(found)), (wanted, repr(wanted)))
        self.assertIs(type(found), type(wanted))

    def refused(self, error, attributes, call, *parts, **more):
        """Check that a call raises this very error, with exactly these attributes."""
        with self.assertRaises(error) as caught:
            call(*parts, **more)
        self.assertIs(type(caught.exception), error)
        found = dict(vars(caught.exception))
        self.assertEqual(sorted(found), sorted(attributes))
        for name in attributes:
            self.assertIs(type(found[name]), type(attributes[name]))
            if found[name] is not attributes[name]:
                self.assertEqual(found[name], attributes[name])

    def refused_value(self, error, value, call, *parts, **more):
        """Check that a call raises this very error with the very value that was passed."""
        with self.assertRaises(error) as caught:
            call(*parts, **more)
        self.assertIs(type(caught.exception), error)
        self.assertEqual(list(vars(caught.exception)), ["value"])
        self.assertIs(caught.exception.value, value)


class LayoutCase(Checks):
    """A test case with the layout of the examples of moves, room and rest, which no call may change."""

    def setUp(self):
        self.layout = Layout(Sizes([1, 2, 4, 8]), 8)
        for address in [1, 3, 4, 6]:
            self.layout.put(0, address)
        self.before = repr(self.layout)

    def tearDown(self):
        self.assertEqual(repr(self.layout), self.before)
        self.same(self.layout.free, 4)
