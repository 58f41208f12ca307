"""Block sizes that divide each other, and the pieces of objects."""

from exactroom.errors import InvalidCount, InvalidLevel, InvalidNumber, InvalidNumbers, InvalidSizes, InvalidText
from exactroom.errors import TooManyPieces

DIGITS = "0123456789"
LETTERS = "abcdefghijklmnopqrstuvwxyz"
MAX_NAME = 8
MAX_DIGITS = 4000


def is_integer(value):
    """Return whether the value is an integer; True and False are none."""
    return isinstance(value, int) and not isinstance(value, bool)


def is_name(value):
    """Return whether the value is a string of one to eight characters from a to z."""
    if not isinstance(value, str) or not 1 <= len(value) <= MAX_NAME:
        return False
    return all([letter in LETTERS for letter in value])


def is_cells(value):
    """Return whether the value is a number of cells."""
    return is_integer(value) and 1 <= value <= Sizes.MAX_CELLS


def check_cells(value):
    """Raise InvalidNumber if the value is no number of cells."""
    if not is_cells(value):
        raise InvalidNumber(value)


def check_numbers(value):
    """Raise InvalidNumbers if the value is no list or tuple of numbers of cells."""
    if not isinstance(value, (list, tuple)):
        raise InvalidNumbers(0)
    for position, cells in enumerate(value):
        if not is_cells(cells):
            raise InvalidNumbers(position)


def read_integer(word):
    """Return the integer that the word writes in decimal digits, with - if it is negative, or None if it is none."""
    digits = word[1:] if word.startswith("-") else word
    # Python refuses very long numbers with an error of its own.
    if not 1 <= len(digits) <= MAX_DIGITS or not all([digit in DIGITS for digit in digits]):
        return None
    return int(word) if digits[0] != "0" or word == "0" else None


def size_problem(values, position):
    """Return what is wrong with the size at this position if those before it are right, or None."""
    size = values[position]
    if not is_integer(size) or not 1 <= size <= Sizes.MAX_SIZE:
        return "number"
    if position == 0:
        return None if size == 1 else "first"
    before = values[position - 1]
    if size <= before or size % before != 0:
        return "multiple"
    return None


def check_sizes(values):
    """Raise InvalidSizes for the first problem of what shall be a list of sizes."""
    if not isinstance(values, list):
        raise InvalidSizes("list", 0)
    for position in range(len(values)):
        problem = size_problem(values, position)
        if problem is not None:
            raise InvalidSizes(problem, position)
    if not 1 <= len(values) <= Sizes.MAX_SIZES:
        raise InvalidSizes("count", 0)


class Sizes:
    """One to eight sizes, from 1 upwards, each one a multiple of the one before."""

    MAX_SIZES = 8
    MAX_SIZE = 1000000000
    MAX_CELLS = 1000000000000
    MAX_PIECES = 64

    def __init__(self, values):
        check_sizes(values)
        self.size_list = list(values)

    def __eq__(self, other):
        return isinstance(other, Sizes) and self.size_list == other.size_list

    def __len__(self):
        return len(self.size_list)

    def __repr__(self):
        return f"Sizes({self.size_list!r})"

    @classmethod
    def doubling(cls, count):
        """Return the sizes 1, 2, 4, and so on, with so many sizes."""
        if not is_integer(count) or not 1 <= count <= cls.MAX_SIZES:
            raise InvalidCount(count)
        sizes = [1]
        while len(sizes) < count:
            sizes.append(2 * sizes[-1])
        return cls(sizes)

    @classmethod
    def from_text(cls, text):
        """Return the sizes that are written in the text, with one space between them."""
        if not isinstance(text, str):
            raise InvalidText(0)
        sizes = [read_integer(word) for word in text.split(" ")]
        try:
            return cls(sizes)
        except InvalidSizes:
            raise InvalidText(1) from None

    @property
    def top(self):
        """The highest level."""
        return len(self.size_list) - 1

    def all_sizes(self):
        """Return the list of the sizes."""
        return list(self.size_list)

    def has_level(self, level):
        """Return whether the value, of any kind, is a level of these sizes."""
        return is_integer(level) and 0 <= level <= self.top

    def check_level(self, level):
        """Raise InvalidLevel if the value is no level of these sizes."""
        if not self.has_level(level):
            raise InvalidLevel(level)

    def size(self, level):
        """Return the size of a level."""
        self.check_level(level)
        return self.size_list[level]

    def level_of(self, cells):
        """Return the level of the largest piece of an object with so many cells."""
        check_cells(cells)
        level = self.top
        while self.size_list[level] > cells:
            level -= 1
        return level

    def whole(self, cells, level):
        """Return the number of cells in the pieces of this level or higher."""
        check_cells(cells)
        return cells - cells % self.size(level)

    def counts(self, cells):
        """Return how many pieces an object with so many cells has of each level, level 0 first."""
        check_cells(cells)
        rest = cells
        falling = []
        for size in reversed(self.size_list):
            falling.append(rest // size)
            rest = rest % size
        return falling[::-1]

    def pieces(self, cells):
        """Return the levels of the pieces of an object with so many cells, the largest piece first."""
        counts = self.counts(cells)
        # The list is built only behind this check: it could have as many elements as there are cells.
        if sum(counts) > self.MAX_PIECES:
            raise TooManyPieces(self.MAX_PIECES)
        levels = []
        for level in range(self.top, -1, -1):
            levels += [level] * counts[level]
        return levels
