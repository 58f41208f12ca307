"""Regions of addresses: where blocks may lie."""

from exactroom.errors import InvalidAddress
from exactroom.sizes import check_cells, is_integer


def is_address(value):
    """Return whether the value is an integer that is at least 0."""
    return is_integer(value) and value >= 0


def check_range(low, high):
    """Raise InvalidAddress if low is no address, or high no integer that is at least low."""
    if not is_address(low):
        raise InvalidAddress(low)
    if not is_integer(high) or high < low:
        raise InvalidAddress(high)


def next_start(size, address):
    """Return the least multiple of the size that is not below the address."""
    return -(-address // size) * size


def gaps_between(ranges, length):
    """Return the ranges (low, high) of a memory that disjoint ranges, which are listed by address, leave over."""
    gaps = []
    low = 0
    for start, end in ranges:
        if low < start:
            gaps.append((low, start))
        low = end
    if low < length:
        gaps.append((low, length))
    return gaps


def lies_below(sizes, level, address, end):
    """Return whether a region of the level starts at the address and has no cell from the end on."""
    size = sizes.size(level)
    return address % size == 0 and address + size <= end


def is_region(sizes, length, level, address):
    """Return whether a memory of this length has a region of this level at this address."""
    check_cells(length)
    return sizes.has_level(level) and is_address(address) and lies_below(sizes, level, address, length)


def region_start(sizes, level, address):
    """Return the greatest multiple of the size of the level that is not above the address."""
    size = sizes.size(level)
    if not is_address(address):
        raise InvalidAddress(address)
    return address - address % size


def count_regions(sizes, level, low, high):
    """Return the number of regions of the level in the range from low to high - 1."""
    size = sizes.size(level)
    check_range(low, high)
    # Where no multiple of the size lies in the range, the difference is below 0.
    return max(0, (region_start(sizes, level, high) - next_start(size, low)) // size)


def highest_level_at(sizes, low, high):
    """Return the highest level of a region that starts at low and lies in the range, which is not empty."""
    level = sizes.top
    while not lies_below(sizes, level, low, high):
        level -= 1
    return level


def first_run(sizes, low, high):
    """Return the level of the first run of a range that is not empty, and the address behind the run."""
    level = highest_level_at(sizes, low, high)
    # The run ends where a larger region begins; if none lies in the range, it goes as far as regions fit.
    if level < sizes.top and count_regions(sizes, level + 1, low, high) > 0:
        return level, next_start(sizes.size(level + 1), low)
    return level, region_start(sizes, level, high)


def maximal_runs(sizes, low, high):
    """Return the runs (level, address, count) of the maximal regions of the range from low to high - 1."""
    check_range(low, high)
    runs = []
    address = low
    while address < high:
        level, end = first_run(sizes, address, high)
        runs.append((level, address, (end - address) // sizes.size(level)))
        address = end
    return runs
