"""A memory of objects, which programs call by names while their pieces may be moved."""

from exactroom.entries import Entry
from exactroom.errors import InvalidCount, InvalidIndex, InvalidName, InvalidValue, NameTaken, NotPinned, Pinned
from exactroom.errors import UnknownName
from exactroom.layouts import Layout, check_fits
from exactroom.lengths import check_length, layout_of, shortening_moves
from exactroom.moves import rearranged
from exactroom.rest import is_at_rest, settling_moves
from exactroom.room import room
from exactroom.sizes import check_cells, check_numbers, is_integer, is_name


class Memory:
    """Objects with different names in a memory of some length."""

    HAS_RESERVATIONS = False

    def __init__(self, sizes, length):
        # The layout of the blocks of all objects.
        self.arrangement = Layout(sizes, length)
        # The objects by name, in the sequence in which they were requested.
        self.entries = {}

    def __eq__(self, other):
        return isinstance(other, Memory) and not other.HAS_RESERVATIONS and self.has_same_objects(other)

    def __len__(self):
        return len(self.entries)

    def __repr__(self):
        return f"Memory({self.capacity}, {self.name_rows()!r})"

    @property
    def sizes(self):
        """The sizes."""
        return self.arrangement.sizes

    @property
    def capacity(self):
        """The length."""
        return self.arrangement.length

    def has_same_objects(self, other):
        """Return whether another memory has the same sizes, length and objects."""
        return self.arrangement == other.arrangement and list(self.entries.items()) == list(other.entries.items())

    def name_rows(self):
        """Return tuples (name, cells) of the objects, in sequence."""
        return [(name, entry.cell_total) for name, entry in self.entries.items()]

    def copy_into(self, twin):
        """Give another memory the same length and copies of the same objects."""
        twin.arrangement = self.arrangement.clone()
        twin.entries = {name: entry.clone() for name, entry in self.entries.items()}

    def clone(self):
        """Return an independent copy."""
        twin = Memory(self.sizes, self.capacity)
        self.copy_into(twin)
        return twin

    def entry(self, name):
        """Return the object with this name, which may be any value."""
        if not is_name(name) or name not in self.entries:
            raise UnknownName(name)
        return self.entries[name]

    def unpinned_entry(self, name):
        """Return the object with this name if it is not pinned."""
        entry = self.entry(name)
        if entry.is_pinned():
            raise Pinned(name)
        return entry

    def entry_with_cell(self, name, index):
        """Return the object with this name if it has a cell with this number."""
        entry = self.entry(name)
        if not entry.has_cell(index):
            raise InvalidIndex(index)
        return entry

    def check_new(self, name, cells):
        """Raise the error of a request for this name and number of cells, whatever room there is."""
        if not is_name(name):
            raise InvalidName(name)
        if name in self.entries:
            raise NameTaken(name)
        # This raises the errors of a number of cells.
        self.sizes.pieces(cells)

    def names(self):
        """Return the names of the objects, in sequence."""
        return list(self.entries)

    def cells(self, name):
        """Return the number of cells of an object."""
        return self.entry(name).cell_total

    def addresses(self, name):
        """Return the addresses of the pieces of an object."""
        return list(self.entry(name).places)

    def pins(self, name):
        """Return the number of pins minus unpins of an object."""
        return self.entry(name).pin_count

    def layout(self):
        """Return the layout of the blocks."""
        return self.arrangement.clone()

    def slack(self, level, *, kept=()):
        """Return the slack of a level."""
        return self.arrangement.slack(level, kept=kept)

    def largest(self, *, kept=()):
        """Return the largest number of cells that fits together with the kept ones, or 0 if none does."""
        return self.arrangement.largest(kept=kept)

    def pieces_by_address(self):
        """Return tuples (name, index of the piece) of all pieces, by address."""
        pieces = {}
        for name, entry in self.entries.items():
            for piece, address in enumerate(entry.places):
                pieces[address] = (name, piece)
        return pieces

    def follow(self, moves):
        """Give the moved pieces their new addresses, and return the moves as tuples (name, piece, old, new)."""
        pieces = self.pieces_by_address()
        told = []
        for old, new in moves:
            name, piece = pieces[old]
            self.entries[name].places[piece] = new
            told.append((name, piece, old, new))
        return told

    def layout_without(self, entry):
        """Return the layout without the blocks of an object."""
        layout = self.arrangement.clone()
        for address in entry.places:
            layout.take_out(address)
        return layout

    def layout_with_pin(self, entry, pinned):
        """Return the layout after the blocks of an object were made pinned, or unpinned."""
        layout = self.arrangement.clone()
        for address in entry.places:
            layout.set_pinned(address, pinned)
        return layout

    def arrange(self, layout, moves, entry):
        """Take over a layout after these moves, with blocks for a new or resized object; return the told moves."""
        told = self.follow(moves)
        self.arrangement = rearranged(layout, moves)
        for level, address in zip(entry.levels(), entry.places):
            self.arrangement.put(level, address)
        return told

    def request(self, name, cells, *, kept=()):
        """Request an object, and return the moves of other objects."""
        self.check_new(name, cells)
        check_numbers(kept)
        check_fits(self.arrangement, [*kept, cells])
        moves, places = room(self.arrangement, cells)
        entry = Entry(self.sizes, cells, places)
        told = self.arrange(self.arrangement, moves, entry)
        self.entries[name] = entry
        return told

    def release(self, name):
        """Remove an object."""
        entry = self.unpinned_entry(name)
        self.arrangement = self.layout_without(entry)
        del self.entries[name]

    def resize(self, name, cells, *, kept=()):
        """Give an object another number of cells, and return the moves of other objects."""
        entry = self.unpinned_entry(name)
        # This raises the errors of a number of cells.
        self.sizes.pieces(cells)
        check_numbers(kept)
        rest = self.layout_without(entry)
        check_fits(rest, [*kept, cells])
        if cells == entry.cell_total:
            return []
        moves, places = room(rest, cells)
        after = entry.with_cells(cells, places)
        told = self.arrange(rest, moves, after)
        self.entries[name] = after
        return told

    def set_length(self, length, *, kept=()):
        """Make the memory longer or shorter, and return the moves."""
        check_cells(length)
        check_numbers(kept)
        for name, entry in self.entries.items():
            if entry.is_pinned() and entry.reaches(length):
                raise Pinned(name)
        check_length(self.arrangement, length, kept)
        moves = shortening_moves(self.arrangement, length) if length < self.capacity else []
        told = self.follow(moves)
        self.arrangement = layout_of(self.sizes, length, rearranged(self.arrangement, moves).blocks())
        return told

    def is_at_rest(self):
        """Return whether the memory has as many free regions of each level as possible."""
        return is_at_rest(self.arrangement)

    def settle(self):
        """Bring the memory to rest, and return the moves."""
        moves = settling_moves(self.arrangement)
        told = self.follow(moves)
        self.arrangement = rearranged(self.arrangement, moves)
        return told

    def pin(self, name, *, kept=()):
        """Pin an object once more, and return the number of pins."""
        entry = self.entry(name)
        check_numbers(kept)
        after = self.layout_with_pin(entry, True)
        check_fits(after, kept)
        self.arrangement = after
        entry.pin_count += 1
        return entry.pin_count

    def unpin(self, name):
        """Take one pin of an object back, and return the number of pins."""
        entry = self.entry(name)
        if not entry.is_pinned():
            raise NotPinned(name)
        entry.pin_count -= 1
        self.arrangement = self.layout_with_pin(entry, entry.is_pinned())
        return entry.pin_count

    def read(self, name, index):
        """Return the integer in a cell of an object."""
        return self.entry_with_cell(name, index).contents.get(index, 0)

    def write(self, name, index, value):
        """Change the integer in a cell of an object."""
        entry = self.entry_with_cell(name, index)
        if not is_integer(value):
            raise InvalidValue(value)
        entry.set_cell(index, value)

    def stored(self):
        """Yield a tuple (name, index, value) for each cell that does not hold 0, in sequence."""
        # All of them are taken at once, so that a change of the memory in between does not disturb the rest.
        rows = []
        for name, entry in self.entries.items():
            rows += [(name, index, value) for index, value in sorted(entry.contents.items())]
        yield from rows

    def copy_cells(self, source, first, target, second, count):
        """Copy the contents of so many cells of one object, from number first on, to another one or the same."""
        giver = self.entry(source)
        taker = self.entry(target)
        if not is_integer(first) or not 0 <= first <= giver.cell_total:
            raise InvalidIndex(first)
        if not is_integer(second) or not 0 <= second <= taker.cell_total:
            raise InvalidIndex(second)
        most = min(giver.cell_total - first, taker.cell_total - second)
        if not is_integer(count) or not 0 <= count <= most:
            raise InvalidCount(count)
        taker.overwrite(second, count, giver.contents_from(first, count))

    def address_of(self, name, index):
        """Return the address of a cell of an object."""
        return self.entry_with_cell(name, index).address_at(index)

    def owner_of(self, address):
        """Return the name of the object that has the cell at this address, and the number of the cell, or None."""
        block = self.arrangement.block_at(address)
        if block is None:
            return None
        name, piece = self.pieces_by_address()[block[0]]
        return name, self.entries[name].number_at(piece, address)
