"""Room for the pieces of a number of cells, made by moving smaller blocks."""

from exactroom.errors import InvalidAddress, Occupied
from exactroom.layouts import check_fits
from exactroom.moves import cost, is_rearrangement, moved_level, rearranged
from exactroom.plans import Plan
from exactroom.regions import maximal_runs


def limit(sizes, cells):
    """Return how many cells may be moved at most to make room for so many cells."""
    return cells * sizes.level_of(cells)


def runs_by_level(layout):
    """Return for each level the list of its free runs (address, count), by address."""
    runs = [[] for size in layout.sizes.all_sizes()]
    for level, address, count in layout.free_runs():
        runs[level].append((address, count))
    return runs


def take_region(sizes, runs, level):
    """Take the chosen region of the level out of the runs, and return its address, or None if there is none."""
    found = level
    while found <= sizes.top and not runs[found]:
        found += 1
    if found > sizes.top:
        return None
    address, count = runs[found].pop(0)
    end = address + sizes.size(found)
    if count > 1:
        runs[found].insert(0, (end, count - 1))
    # The levels of what is left of a larger region are those at which nothing was found.
    for rest_level, rest_address, rest_count in maximal_runs(sizes, address + sizes.size(level), end):
        runs[rest_level].append((rest_address, rest_count))
    return address


def chosen_addresses(layout, cells):
    """Return the chosen addresses for so many cells, or None if there are not enough free regions."""
    levels = layout.sizes.pieces(cells)
    runs = runs_by_level(layout)
    addresses = []
    for level in levels:
        address = take_region(layout.sizes, runs, level)
        if address is None:
            return None
        addresses.append(address)
    return addresses


def room_by_moves(layout, levels):
    """Return moves, and addresses for pieces of these falling levels that fit but lack free regions."""
    plan = Plan(layout)
    addresses = []
    for level in range(levels[0], -1, -1):
        for piece in range(levels.count(level)):
            addresses.append(plan.give(level))
        plan.place_lost(level)
    return plan.all_moves(), addresses


def room(layout, cells):
    """Return room for so many cells, a tuple (moves, addresses)."""
    levels = layout.sizes.pieces(cells)
    check_fits(layout, [cells])
    addresses = chosen_addresses(layout, cells)
    if addresses is not None:
        return [], addresses
    return room_by_moves(layout, levels)


def are_allowed(layout, cells, moves):
    """Return whether a rearrangement may be done to make room for so many cells."""
    if not moves:
        return True
    if chosen_addresses(layout, cells) is not None:
        return False
    sizes = layout.sizes
    return moved_level(layout, moves) < sizes.level_of(cells) and cost(layout, moves) <= limit(sizes, cells)


def are_free(layout, levels, addresses):
    """Return whether the value addresses lists free, disjoint regions of these levels."""
    if not isinstance(addresses, list) or len(addresses) != len(levels):
        return False
    trial = layout.clone()
    try:
        for level, address in zip(levels, addresses):
            trial.put(level, address)
    except (InvalidAddress, Occupied):
        return False
    return True


def is_room(layout, cells, value):
    """Return whether the value, of any kind, is room for so many cells."""
    levels = layout.sizes.pieces(cells)
    if not isinstance(value, tuple) or len(value) != 2:
        return False
    moves, addresses = value
    if not is_rearrangement(layout, moves) or not are_allowed(layout, cells, moves):
        return False
    return are_free(rearranged(layout, moves), levels, addresses)
