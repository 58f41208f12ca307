"""Layouts: which regions of a memory are blocks, and how much room they leave."""

from exactroom.errors import InvalidAddress, NoRoom, Occupied, UnknownBlock
from exactroom.regions import count_regions, gaps_between, is_address, is_region, maximal_runs, next_start
from exactroom.sizes import check_cells, check_numbers, is_integer


def check_fits(layout, numbers):
    """Raise NoRoom if these numbers of cells do not fit together."""
    short = layout.short_level(numbers)
    if short is not None:
        raise NoRoom(short)


class Layout:
    """A memory of some length with disjoint blocks, each of them pinned or not."""

    def __init__(self, sizes, length):
        check_cells(length)
        self.size_table = sizes
        self.cell_count = length
        self.free_count = length
        # Tuples (address, level, is_pinned), by address.
        self.block_list = []

    def __eq__(self, other):
        return (isinstance(other, Layout) and self.size_table == other.size_table
                and self.cell_count == other.cell_count and self.block_list == other.block_list)

    def __len__(self):
        return len(self.block_list)

    def __repr__(self):
        return f"Layout({self.cell_count}, {self.block_list!r})"

    @property
    def sizes(self):
        """The sizes."""
        return self.size_table

    @property
    def length(self):
        """The number of cells of the memory."""
        return self.cell_count

    @property
    def free(self):
        """The number of free cells."""
        return self.free_count

    def blocks(self):
        """Return the blocks by address, as tuples (address, level, is_pinned)."""
        return list(self.block_list)

    def clone(self):
        """Return an independent copy."""
        twin = Layout(self.size_table, self.cell_count)
        twin.block_list = list(self.block_list)
        twin.free_count = self.free_count
        return twin

    def count_below(self, address):
        """Return how many blocks start below the address."""
        low = 0
        high = len(self.block_list)
        while low < high:
            middle = (low + high) // 2
            if self.block_list[middle][0] < address:
                low = middle + 1
            else:
                high = middle
        return low

    def index_of(self, address):
        """Return the index of the block that starts at the address, which may be any value."""
        if is_integer(address):
            index = self.count_below(address)
            if index < len(self.block_list) and self.block_list[index][0] == address:
                return index
        raise UnknownBlock(address)

    def block_at(self, address):
        """Return the block that contains the address, or None."""
        if not is_address(address) or address >= self.cell_count:
            raise InvalidAddress(address)
        index = self.count_below(address + 1) - 1
        if index < 0:
            return None
        start, level, is_pinned = self.block_list[index]
        return (start, level, is_pinned) if address < start + self.size_table.size(level) else None

    def first_taken(self, low, high):
        """Return the lowest address from low to high - 1 that is not free, or None."""
        if self.block_at(low) is not None:
            return low
        index = self.count_below(low)
        if index < len(self.block_list) and self.block_list[index][0] < high:
            return self.block_list[index][0]
        return None

    def put(self, level, address, *, pinned=False):
        """Add a block."""
        size = self.size_table.size(level)
        if not is_region(self.size_table, self.cell_count, level, address):
            raise InvalidAddress(address)
        taken = self.first_taken(address, address + size)
        if taken is not None:
            raise Occupied(taken)
        self.block_list.insert(self.count_below(address), (address, level, pinned))
        self.free_count -= size

    def take_out(self, address):
        """Remove the block that starts at the address, and return its level and whether it was pinned."""
        start, level, is_pinned = self.block_list.pop(self.index_of(address))
        self.free_count += self.size_table.size(level)
        return level, is_pinned

    def set_pinned(self, address, pinned):
        """Make the block that starts at the address pinned, or unpinned."""
        index = self.index_of(address)
        start, level, was_pinned = self.block_list[index]
        self.block_list[index] = (start, level, pinned)

    def ranges_of(self, blocks):
        """Return the ranges (low, high) of the addresses of these blocks."""
        return [(address, address + self.size_table.size(level)) for address, level, is_pinned in blocks]

    def free_gaps(self):
        """Return the longest ranges (low, high) of free addresses, by address."""
        return gaps_between(self.ranges_of(self.block_list), self.cell_count)

    def pinned_ranges(self):
        """Return the ranges (low, high) of the addresses of the pinned blocks, by address."""
        return self.ranges_of([block for block in self.block_list if block[2]])

    def unpinned_levels(self):
        """Return the levels of the unpinned blocks, by the addresses at which they start."""
        return {address: level for address, level, is_pinned in self.block_list if not is_pinned}

    def free_runs(self):
        """Return the runs (level, address, count) of the maximal free regions, by address."""
        runs = []
        for low, high in self.free_gaps():
            runs.extend(maximal_runs(self.size_table, low, high))
        return runs

    def regions_in(self, gaps, level):
        """Return the number of regions of the level in these ranges."""
        # A memory without gaps must not let a wrong level pass.
        self.size_table.check_level(level)
        return sum([count_regions(self.size_table, level, low, high) for low, high in gaps])

    def free_regions(self, level):
        """Return the number of free regions of the level."""
        return self.regions_in(self.free_gaps(), level)

    def free_addresses(self, level):
        """Yield the addresses of the free regions of the level, in ascending sequence."""
        size = self.size_table.size(level)
        for low, high in self.free_gaps():
            for address in range(next_start(size, low), high - size + 1, size):
                yield address

    def clear_cells(self, level):
        """Return the number of cells in the clear regions of the level."""
        gaps = gaps_between(self.pinned_ranges(), self.cell_count)
        return self.regions_in(gaps, level) * self.size_table.size(level)

    def unpinned_cells(self, level):
        """Return the number of cells in the unpinned blocks of this level or higher."""
        self.size_table.check_level(level)
        levels = self.unpinned_levels()
        return sum([self.size_table.size(levels[address]) for address in levels if levels[address] >= level])

    def slack(self, level, *, kept=()):
        """Return how many cells of clear regions of the level no unpinned block and no kept number needs."""
        cells = self.clear_cells(level) - self.unpinned_cells(level)
        check_numbers(kept)
        return cells - sum([self.size_table.whole(number, level) for number in kept])

    def short_level(self, numbers):
        """Return the lowest level whose slack is below 0 if these numbers of cells are kept, or None."""
        for level in range(len(self.size_table)):
            if self.slack(level, kept=numbers) < 0:
                return level
        return None

    def fits(self, *numbers, kept=()):
        """Return whether these numbers of cells and the kept ones fit together."""
        for cells in numbers:
            check_cells(cells)
        check_numbers(kept)
        return self.short_level([*numbers, *kept]) is None

    def largest(self, *, kept=()):
        """Return the largest number of cells that fits together with the kept ones, or 0 if none does."""
        most = [self.slack(level, kept=kept) + self.size_table.size(level) - 1
                for level in range(len(self.size_table))]
        return max(0, min(most))
