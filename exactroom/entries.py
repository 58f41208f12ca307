"""The objects of a memory: how many cells they have, where these lie, and what they hold."""

from exactroom.sizes import is_integer


def piece_starts(sizes, cells):
    """Return the numbers of the first cells of the pieces of an object with so many cells."""
    starts = []
    start = 0
    for level in sizes.pieces(cells):
        starts.append(start)
        start += sizes.size(level)
    return starts


class Entry:
    """One object of a memory."""

    def __init__(self, sizes, cells, places):
        self.size_table = sizes
        self.cell_total = cells
        # For each piece, the number of its first cell, and its address.
        self.starts = piece_starts(sizes, cells)
        self.places = list(places)
        self.pin_count = 0
        # The integers in the cells that do not hold 0, by the numbers of the cells: there can be too many other cells.
        self.contents = {}

    def __eq__(self, other):
        return (isinstance(other, Entry) and self.size_table == other.size_table
                and self.cell_total == other.cell_total and self.places == other.places
                and self.pin_count == other.pin_count and self.contents == other.contents)

    def clone(self):
        """Return an independent copy."""
        twin = Entry(self.size_table, self.cell_total, self.places)
        twin.pin_count = self.pin_count
        twin.contents = dict(self.contents)
        return twin

    def with_cells(self, cells, places):
        """Return the unpinned object after it got another number of cells, at these addresses."""
        other = Entry(self.size_table, cells, places)
        other.contents = {index: value for index, value in self.contents.items() if index < cells}
        return other

    def levels(self):
        """Return the levels of the pieces."""
        return self.size_table.pieces(self.cell_total)

    def is_pinned(self):
        """Return whether the object is pinned."""
        return self.pin_count > 0

    def has_cell(self, index):
        """Return whether the value, of any kind, is the number of a cell of the object."""
        return is_integer(index) and 0 <= index < self.cell_total

    def address_at(self, index):
        """Return the address of the cell with this number."""
        piece = len([start for start in self.starts if start <= index]) - 1
        return self.places[piece] + index - self.starts[piece]

    def number_at(self, piece, address):
        """Return the number of the cell at this address, which is one of this piece."""
        return self.starts[piece] + address - self.places[piece]

    def reaches(self, length):
        """Return whether the object has a cell from this address on."""
        sizes = [self.size_table.size(level) for level in self.levels()]
        return any([address + size > length for address, size in zip(self.places, sizes)])

    def set_cell(self, index, value):
        """Let a cell hold this integer."""
        if value == 0:
            self.contents.pop(index, None)
        else:
            self.contents[index] = value

    def contents_from(self, first, count):
        """Return the integers in so many cells that do not hold 0, by their distance from the first one."""
        return {index - first: value for index, value in self.contents.items() if first <= index < first + count}

    def overwrite(self, second, count, values):
        """Let so many cells hold what the values say by the distance from the first one, and otherwise 0."""
        self.contents = {index: value for index, value in self.contents.items()
                         if not second <= index < second + count}
        for distance, value in values.items():
            self.contents[second + distance] = value
