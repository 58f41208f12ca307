"""Journals: operations on a shared memory that can be undone, and where the cells of earlier times are."""

from exactroom.errors import InvalidCount, InvalidOperation, UnknownTime
from exactroom.sizes import is_integer

# How many parts an operation has, its word included.
PARTS = {
    "request": 4, "release": 2, "resize": 3, "write": 4, "pin": 2, "unpin": 2, "reserve": 3, "withdraw": 3,
    "settle": 1, "length": 2,
}


def is_operation(value):
    """Return whether the value, of any kind, is a tuple with the word of an operation and as many parts as it has."""
    if not isinstance(value, tuple) or len(value) == 0 or not isinstance(value[0], str):
        return False
    return PARTS.get(value[0]) == len(value)


def performed(shared, operation):
    """Perform an operation on a shared memory, and return what its method returns."""
    word, *parts = operation
    if word == "request":
        name, cells, owner = parts
        return shared.request(name, cells, owner=owner)
    if word == "release":
        return shared.release(*parts)
    if word == "resize":
        return shared.resize(*parts)
    if word == "write":
        return shared.write(*parts)
    if word == "pin":
        return shared.pin(*parts)
    if word == "unpin":
        return shared.unpin(*parts)
    if word == "reserve":
        return shared.reserve(*parts)
    if word == "withdraw":
        return shared.withdraw(*parts)
    if word == "settle":
        return shared.settle()
    return shared.set_length(*parts)


class Journal:
    """A shared memory with the operations that were performed on it, and its states before each of them."""

    def __init__(self, shared):
        # The shared memory at each time, the present one last. None of them is ever changed, so that a copy of the
        # journal may have the same ones.
        self.states = [shared.clone()]
        self.done = []

    def __eq__(self, other):
        return isinstance(other, Journal) and self.states[-1] == other.states[-1] and self.done == other.done

    def __len__(self):
        return len(self.done)

    @property
    def time(self):
        """The number of operations that were performed and not undone."""
        return len(self.done)

    def shared(self):
        """Return an independent copy of the shared memory."""
        return self.states[-1].clone()

    def operations(self):
        """Return the list of the operations that were performed and not undone."""
        return list(self.done)

    def clone(self):
        """Return an independent copy."""
        twin = Journal(self.states[-1])
        twin.states = list(self.states)
        twin.done = list(self.done)
        return twin

    def perform(self, operation):
        """Perform an operation, and return what the method of the shared memory returns."""
        if not is_operation(operation):
            raise InvalidOperation("no operation")
        after = self.states[-1].clone()
        result = performed(after, operation)
        self.states.append(after)
        self.done.append(operation)
        return result

    def perform_all(self, operations):
        """Perform a list of operations, all of them or none, and return the list of the results."""
        if not isinstance(operations, list):
            raise InvalidOperation("no list of operations")
        trial = self.clone()
        results = [trial.perform(operation) for operation in operations]
        self.states = trial.states
        self.done = trial.done
        return results

    def undo(self, count=1):
        """Undo the last so many operations, and return the time."""
        if not is_integer(count) or not 0 <= count <= self.time:
            raise InvalidCount(count)
        time = self.time - count
        self.states = self.states[:time + 1]
        self.done = self.done[:time]
        return time

    def check_time(self, time):
        """Raise UnknownTime if the value is no time up to the present one."""
        if not is_integer(time) or not 0 <= time <= self.time:
            raise UnknownTime(time)

    def has_lived_since(self, time, name, index):
        """Return whether the object has had a cell with this number at all times from this one on.

        That is the same cell then: an operation that ends a cell leaves a state without it.
        """
        return all([name in state.names() and index < state.cells(name) for state in self.states[time:]])

    def address_now(self, time, address):
        """Return where the cell is now that was at this address at that time, or None."""
        self.check_time(time)
        cell = self.states[time].owner_of(address)
        if cell is None:
            return None
        name, index = cell
        return self.states[-1].address_of(name, index) if self.has_lived_since(time, name, index) else None

    def address_then(self, time, address):
        """Return where the cell was at that time that is at this address now, or None."""
        self.check_time(time)
        cell = self.states[-1].owner_of(address)
        if cell is None:
            return None
        name, index = cell
        return self.states[time].address_of(name, index) if self.has_lived_since(time, name, index) else None
