"""Plans: how regions are given to pieces and blocks so that in the end everything has its place."""

from exactroom.regions import count_regions, gaps_between, next_start, region_start


class Plan:
    """What becomes of a layout if regions are given away and the blocks in them get other ones.

    Regions are given from the highest level down. A given region may contain unpinned blocks of lower levels; these
    lose their place and get another region when it is the turn of their level.

    If all that is asked for fits, no level runs out of regions, whichever ones were given before: what was given so
    far and the blocks of this level or higher that stay are whole clear regions of the level, and the slack says
    that all of them together with what is still to be given are no more than there are.

    The blocks of one level that lose their place have at most as many cells as were asked for: a region that a lost
    block gets has as many cells as that block leaves in another given region, so that no more than the cells asked
    for are left in all given regions for the blocks of lower levels.
    """

    def __init__(self, layout):
        self.size_table = layout.sizes
        self.cell_count = layout.length
        # Ranges (low, high) that are not available: pinned blocks, and what was given away.
        self.closed = layout.pinned_ranges()
        # The levels of the unpinned blocks that are where they were, by address.
        self.staying = layout.unpinned_levels()
        # For each level, the addresses of the blocks that have lost their place.
        self.lost = [[] for size in self.size_table.all_sizes()]
        # The new addresses of the blocks that got another place, by the old ones.
        self.goals = {}

    def all_moves(self):
        """Return the moves of the blocks that got another place, by their old address."""
        return sorted(self.goals.items())

    def free_gaps(self):
        """Return the longest ranges (low, high) without a block that stays and without a closed address."""
        staying = [(address, address + self.size_table.size(level)) for address, level in self.staying.items()]
        return gaps_between(sorted(self.closed + staying), self.cell_count)

    def lowest_free(self, level):
        """Return the lowest address of a region of the level that contains nothing, or None."""
        for low, high in self.free_gaps():
            if count_regions(self.size_table, level, low, high) > 0:
                return next_start(self.size_table.size(level), low)
        return None

    def filled_regions(self, level):
        """Return the number of cells in blocks of each region, by address, that only blocks of lower levels keep."""
        size = self.size_table.size(level)
        # A region with a block of a lower level in it can meet nothing higher: that would contain the block, too.
        spoiled = {region_start(self.size_table, level, low) for low, high in self.closed}
        filled = {}
        for address, block_level in self.staying.items():
            start = region_start(self.size_table, level, address)
            if block_level < level and start not in spoiled and start + size <= self.cell_count:
                filled[start] = filled.get(start, 0) + self.size_table.size(block_level)
        return filled

    def cheapest(self, level):
        """Return the address of the region that costs least to empty, and its cells in blocks, or None."""
        address = self.lowest_free(level)
        if address is not None:
            return address, 0
        filled = self.filled_regions(level)
        if not filled:
            return None
        cells, address = min([(filled[start], start) for start in filled])
        return address, cells

    def lose(self, addresses):
        """Take their places from the blocks that stay at these addresses."""
        for address in addresses:
            level = self.staying.pop(address)
            self.lost[level].append(address)

    def close(self, low, high):
        """Make a range unavailable, so that the blocks in it lose their place."""
        self.lose([address for address in self.staying if low <= address < high])
        self.closed.append((low, high))

    def shorten(self, length):
        """Make the addresses from the length on unavailable; no pinned block has one of them."""
        self.lose([address for address, level in self.staying.items()
                   if address + self.size_table.size(level) > length])
        self.cell_count = length

    def give(self, level):
        """Give away the cheapest region of the level, and return its address."""
        address = self.cheapest(level)[0]
        self.close(address, address + self.size_table.size(level))
        return address

    def place_lost(self, level):
        """Give other regions to the blocks of the level that have lost their place."""
        for address in list(self.lost[level]):
            self.goals[address] = self.give(level)

    def set_aside(self, level, count):
        """Give away so many regions of the level, at first those that contain nothing, many at once."""
        size = self.size_table.size(level)
        missing = count
        gaps = self.free_gaps()
        for low, high in gaps:
            taken = min(missing, count_regions(self.size_table, level, low, high))
            if taken > 0:
                start = next_start(size, low)
                self.close(start, start + taken * size)
                missing -= taken
        while missing > 0:
            self.give(level)
            missing -= 1
