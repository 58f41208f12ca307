"""A plain record of a journal: what the shared memory was at each time, and which cell was at which address."""

from tests import plain
from tests.walks import NAMES, OWNERS


def cells_of(shared, values, name):
    """Return the addresses of all cells of an object, by their numbers."""
    levels = plain.pieces(values, shared.cells(name))
    return [address + at for address, level in zip(shared.addresses(name), levels) for at in range(values[level])]


class Record:
    """The times of a journal up to the present one. Each cell has a number of its own, which no other cell ever gets."""

    def __init__(self, values, shared):
        self.values = values
        self.next_cell = 0
        self.shared = [shared.clone()]
        self.operations = []
        # For each time, the cells of each object.
        self.cells = [{name: self.new_cells(shared.cells(name)) for name in shared.names()}]

    def new_cells(self, count):
        self.next_cell += count
        return list(range(self.next_cell - count, self.next_cell))

    def add(self, operation, shared):
        """Add a time, at which the shared memory is this one."""
        cells = {name: list(old) for name, old in self.cells[-1].items()}
        if operation[0] == "request":
            cells[operation[1]] = self.new_cells(operation[2])
        elif operation[0] == "release":
            del cells[operation[1]]
        elif operation[0] == "resize":
            old = cells[operation[1]][:operation[2]]
            cells[operation[1]] = old + self.new_cells(operation[2] - len(old))
        self.cells.append(cells)
        self.operations.append(operation)
        self.shared.append(shared.clone())

    def undo(self, count):
        keep = len(self.operations) - count
        self.operations = self.operations[:keep]
        self.shared = self.shared[:keep + 1]
        self.cells = self.cells[:keep + 1]

    def places(self, time):
        """Return the cell at each address that is not free, at this time."""
        shared = self.shared[time]
        return {address: cell for name, cells in self.cells[time].items()
                for address, cell in zip(cells_of(shared, self.values, name), cells)}

    def address_at(self, place, there):
        """Return the address that the cell at the place of one time has at another; both are given by places."""
        cell = there[0].get(place)
        return next((address for address, other in there[1].items() if other == cell), None) if cell is not None else None

    def address_now(self, time, address):
        return self.address_at(address, (self.places(time), self.places(-1)))

    def address_then(self, time, address):
        return self.address_at(address, (self.places(-1), self.places(time)))


def random_name(source, shared):
    return source.choice(shared.names() * 3 + [source.choice(NAMES)])


def random_operation(source, shared, length):
    """Return an operation of the right form, which may be refused."""
    name = random_name(source, shared)
    cells = source.choice([1, 1, 2, 3, source.randrange(1, 9), source.randrange(1, length + 2)])
    word = source.choice(["request"] * 6 + ["release"] * 3 + ["resize"] * 4 + ["write", "pin", "unpin", "unpin", "reserve",
                                                                               "withdraw", "settle", "settle", "length"])
    if word == "request":
        owned = source.choice(shared.reservations() + [("", cells), (source.choice(OWNERS), cells)])
        return word, source.choice(NAMES), owned[1], owned[0]
    if word == "resize":
        return word, name, cells
    if word == "write":
        return word, name, source.randrange(3), source.randrange(-9, 9)
    if word == "reserve":
        return word, source.choice(OWNERS), cells
    if word == "withdraw":
        return (word, *source.choice(shared.reservations() + [(source.choice(OWNERS), cells)]))
    if word == "settle":
        return (word,)
    if word == "length":
        return word, source.choice([length, length + 3, max(1, length - 5), sum(map(shared.cells, shared.names())) + 1])
    return word, name


def directly(shared, operation):
    """Call the method of a shared memory that an operation stands for."""
    word, *parts = operation
    if word == "request":
        return shared.request(parts[0], parts[1], owner=parts[2])
    return getattr(shared, {"length": "set_length"}.get(word, word))(*parts)


def outcome(call, *parts):
    """Return what a call returns, or the error that it raises with its attributes."""
    try:
        return "returned", call(*parts)
    except Exception as error:
        return type(error), vars(error)
