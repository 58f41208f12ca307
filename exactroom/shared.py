"""Memories with reservations, which are kept without setting cells aside."""

from exactroom.errors import InvalidName, InvalidRequests, NameTaken, NoReservation
from exactroom.layouts import check_fits
from exactroom.memory import Memory
from exactroom.sizes import check_cells, is_cells, is_name

NO_OWNER = ""


def check_owner(value):
    """Raise InvalidName if the value is no name of an owner."""
    if not is_name(value):
        raise InvalidName(value)


def is_request(value):
    """Return whether the value, of any kind, is a tuple of a name and a number of cells."""
    if not isinstance(value, tuple) or len(value) != 2:
        return False
    return is_name(value[0]) and is_cells(value[1])


def check_requests(requests):
    """Raise InvalidRequests if the value is no list of requests."""
    if not isinstance(requests, list):
        raise InvalidRequests(0)
    for position, request in enumerate(requests):
        if not is_request(request):
            raise InvalidRequests(position)


class Shared(Memory):
    """A memory in which owners have reserved numbers of cells."""

    HAS_RESERVATIONS = True

    def __init__(self, sizes, length):
        Memory.__init__(self, sizes, length)
        # Tuples (owner, cells), in the sequence in which they were made.
        self.reserved = []

    def __eq__(self, other):
        return isinstance(other, Shared) and self.has_same_objects(other) and self.reserved == other.reserved

    def __len__(self):
        return len(self.entries)

    def __repr__(self):
        return f"Shared({self.capacity}, {self.name_rows()!r}, {self.reserved!r})"

    @property
    def kept(self):
        """The list of the reserved numbers of cells, in sequence."""
        return [cells for owner, cells in self.reserved]

    def reservations(self):
        """Return the list of the reservations, in sequence."""
        return list(self.reserved)

    def clone(self):
        """Return an independent copy."""
        twin = Shared(self.sizes, self.capacity)
        self.copy_into(twin)
        twin.reserved = list(self.reserved)
        return twin

    def plain(self):
        """Return a memory with the same objects and no reservations."""
        memory = Memory(self.sizes, self.capacity)
        self.copy_into(memory)
        return memory

    def reserve(self, owner, cells):
        """Add a reservation."""
        check_owner(owner)
        # This raises the errors of a number of cells.
        self.sizes.pieces(cells)
        check_fits(self.arrangement, self.kept + [cells])
        self.reserved.append((owner, cells))

    def withdraw(self, owner, cells):
        """Remove the earliest reservation of this owner and number of cells."""
        check_owner(owner)
        check_cells(cells)
        if (owner, cells) not in self.reserved:
            raise NoReservation(owner)
        self.reserved.remove((owner, cells))

    def request(self, name, cells, *, owner=NO_OWNER):
        """Request an object, with the owner's reservation of this number if there is one; return the moves."""
        self.check_new(name, cells)
        if not isinstance(owner, str) or owner != NO_OWNER:
            check_owner(owner)
        rest = list(self.reserved)
        if (owner, cells) in rest:
            rest.remove((owner, cells))
        moves = super().request(name, cells, kept=[number for holder, number in rest])
        self.reserved = rest
        return moves

    def request_all(self, requests):
        """Do several requests at once, and return the list of their moves."""
        check_requests(requests)
        taken = set(self.entries)
        for name, cells in requests:
            if name in taken:
                raise NameTaken(name)
            taken.add(name)
        for name, cells in requests:
            self.sizes.pieces(cells)
        numbers = self.kept + [cells for name, cells in requests]
        check_fits(self.arrangement, numbers)
        results = []
        for name, cells in requests:
            results.append(super().request(name, cells, kept=self.kept))
        return results

    def pins_in_the_way(self, cells):
        """Return the names of the pinned objects each of which alone keeps a request for so many cells from fitting."""
        check_cells(cells)
        numbers = self.kept + [cells]
        if self.arrangement.short_level(numbers) is None:
            return []
        return [name for name, entry in self.entries.items()
                if entry.is_pinned() and self.layout_with_pin(entry, False).short_level(numbers) is None]

    def resize(self, name, cells):
        """Give an object another number of cells, and return the moves of other objects."""
        return super().resize(name, cells, kept=self.kept)

    def pin(self, name):
        """Pin an object once more, and return the number of pins."""
        return super().pin(name, kept=self.kept)

    def set_length(self, length):
        """Make the memory longer or shorter, and return the moves."""
        return super().set_length(length, kept=self.kept)

    def slack(self, level):
        """Return the slack of a level, with the reserved numbers kept."""
        return super().slack(level, kept=self.kept)

    def largest(self):
        """Return the largest number of cells that fits together with the reserved ones, or 0 if none does."""
        return super().largest(kept=self.kept)

    # The methods below are those of every memory. The interface lists them for this class, too.

    def names(self):
        """Return the names of the objects, in sequence."""
        return super().names()

    def cells(self, name):
        """Return the number of cells of an object."""
        return super().cells(name)

    def addresses(self, name):
        """Return the addresses of the pieces of an object."""
        return super().addresses(name)

    def pins(self, name):
        """Return the number of pins minus unpins of an object."""
        return super().pins(name)

    def layout(self):
        """Return the layout of the blocks."""
        return super().layout()

    def release(self, name):
        """Remove an object."""
        super().release(name)

    def read(self, name, index):
        """Return the integer in a cell of an object."""
        return super().read(name, index)

    def write(self, name, index, value):
        """Change the integer in a cell of an object."""
        super().write(name, index, value)

    def stored(self):
        """Yield a tuple (name, index, value) for each cell that does not hold 0, in sequence."""
        yield from super().stored()

    def copy_cells(self, source, first, target, second, count):
        """Copy the contents of so many cells of one object, from number first on, to another one or the same."""
        super().copy_cells(source, first, target, second, count)

    def unpin(self, name):
        """Take one pin of an object back, and return the number of pins."""
        return super().unpin(name)

    def address_of(self, name, index):
        """Return the address of a cell of an object."""
        return super().address_of(name, index)

    def owner_of(self, address):
        """Return the name of the object that has the cell at this address, and the number of the cell, or None."""
        return super().owner_of(address)

    def is_at_rest(self):
        """Return whether the memory has as many free regions of each level as possible."""
        return super().is_at_rest()

    def settle(self):
        """Bring the memory to rest, and return the moves."""
        return super().settle()
