"""All errors of the program, each with the values that it tells about as attributes.

No error puts its values into a message of its own: they may be anything, also what cannot be shown.
Python itself shows the arguments of an error that was raised with them by position.
"""


class RoomError(ValueError):
    """A value that the program was given has the wrong form."""


class InvalidSizes(RoomError):
    """A value is no list of sizes; the problem is "list", "number", "first", "multiple" or "count"."""

    def __init__(self, problem, position):
        self.problem = problem
        self.position = position


class InvalidLevel(RoomError):
    """A value is no level of the sizes."""

    def __init__(self, value):
        self.value = value


class InvalidNumber(RoomError):
    """A value is no number of cells."""

    def __init__(self, value):
        self.value = value


class InvalidNumbers(RoomError):
    """A value is no list or tuple of numbers of cells."""

    def __init__(self, position):
        self.position = position


class InvalidAddress(RoomError):
    """A value is no address that is possible here."""

    def __init__(self, value):
        self.value = value


class InvalidName(RoomError):
    """A value is no name."""

    def __init__(self, value):
        self.value = value


class InvalidIndex(RoomError):
    """A value is not the number of a cell of the object."""

    def __init__(self, value):
        self.value = value


class InvalidValue(RoomError):
    """A value is neither an integer nor, where one is required, an expression."""

    def __init__(self, value):
        self.value = value


class InvalidMoves(RoomError):
    """A value is no list of moves that can be done."""

    def __init__(self, position):
        self.position = position


class InvalidCount(RoomError):
    """A value is no count that is possible here."""

    def __init__(self, value):
        self.value = value


class InvalidRequests(RoomError):
    """A value is no list of requests."""

    def __init__(self, position):
        self.position = position


class InvalidProgram(RoomError):
    """A task has no program; the path leads to its first problem."""

    def __init__(self, task, path):
        self.task = task
        self.path = path


class InvalidText(RoomError):
    """A text does not have the required form; lines are counted from 1."""

    def __init__(self, line):
        self.line = line


class InvalidOperation(RoomError):
    """A value is no operation of a journal."""


class InvalidCommand(RoomError):
    """A value is no command of a desk."""


class UnknownBlock(LookupError):
    """No block starts at this address."""

    def __init__(self, value):
        self.value = value


class UnknownName(LookupError):
    """No object has this name."""

    def __init__(self, value):
        self.value = value


class UnknownTask(LookupError):
    """No task has this name."""

    def __init__(self, value):
        self.value = value


class UnknownTime(LookupError):
    """The journal does not have this time."""

    def __init__(self, value):
        self.value = value


class Occupied(RuntimeError):
    """The cell at this address is not free."""

    def __init__(self, address):
        self.address = address


class NameTaken(RuntimeError):
    """An object has this name already."""

    def __init__(self, name):
        self.name = name


class Pinned(RuntimeError):
    """The object is pinned."""

    def __init__(self, name):
        self.name = name


class NotPinned(RuntimeError):
    """The object is not pinned."""

    def __init__(self, name):
        self.name = name


class NoReservation(RuntimeError):
    """The owner has no such reservation."""

    def __init__(self, owner):
        self.owner = owner


class NotReady(RuntimeError):
    """The task has ended or failed."""

    def __init__(self, task):
        self.task = task


class NoRoom(ArithmeticError):
    """No arrangement has room; the level is the lowest one whose slack would be below 0."""

    def __init__(self, level):
        self.level = level


class TooManyPieces(ArithmeticError):
    """A number of cells has more pieces than the limit."""

    def __init__(self, limit):
        self.limit = limit
