"""Plain looks at small layouts: at every cell, at every region, and at every arrangement."""

import functools
import random

from exactroom.layouts import Layout
from exactroom.sizes import Sizes

# Sizes and a length: few enough layouts to look at all of them, or at every so many-th one.
TINY = [([1], 4, 1), ([1, 2], 5, 1), ([1, 3], 7, 1), ([1, 2, 4], 7, 1), ([1, 2, 6], 7, 1), ([1, 2, 4, 8], 9, 29)]
MEDIUM = [([1, 2, 4, 8], 29), ([1, 2, 4], 24), ([1, 3, 6], 31), ([1, 2, 6, 12], 40), ([1, 5], 17), ([1, 4, 8, 16], 48)]


def build(values, length, blocks):
    """Return a layout with these blocks (address, level, is_pinned)."""
    layout = Layout(Sizes(values), length)
    for address, level, is_pinned in blocks:
        layout.put(level, address, pinned=is_pinned)
    return layout


def tiny_blocks(values, length):
    """Yield the list of blocks of every layout with these sizes and this length."""
    def filled(level, address):
        """Yield all ways to fill a region, as lists of blocks."""
        yield [(address, level, False)]
        yield [(address, level, True)]
        if level == 0:
            yield []
        else:
            yield from joined(level - 1, address, address + values[level])

    def joined(level, low, high):
        """Yield all ways to fill a range with regions up to this level."""
        while low + values[level] > high and level > 0:
            level -= 1
        if low == high:
            yield []
        else:
            for first in filled(level, low):
                for rest in joined(level, low + values[level], high):
                    yield first + rest

    return joined(len(values) - 1, 0, length)


def tiny_layouts(step=1):
    """Yield sizes, length and blocks of every tiny layout, or of some of them."""
    for values, length, own_step in TINY:
        for at, blocks in enumerate(tiny_blocks(values, length)):
            if at % (step * own_step) == 0:
                yield values, length, blocks


def random_blocks(source, values, length, tries, pins):
    """Return blocks of a layout that is filled at random; about one in so many is pinned, none if pins is 0."""
    blocks = []
    for _ in range(tries):
        level = source.randrange(len(values))
        address = source.randrange(0, length, values[level])
        block = (address, level, pins > 0 and source.randrange(pins) == 0)
        if address + values[level] <= length and not overlapping(values, block, blocks):
            blocks.append(block)
    return sorted(blocks)


def medium_layouts(seed, each):
    """Yield sizes, length and blocks of layouts that are filled at random, so many for each of the sizes."""
    source = random.Random(seed)
    for values, length in MEDIUM:
        for at in range(each):
            yield values, length, random_blocks(source, values, length, source.randrange(1, length), (0, 3, 9)[at % 3])


def cells_of(values, address, level):
    return range(address, address + values[level])


def overlapping(values, block, blocks):
    """Return the blocks that share a cell with this one."""
    cells = set(cells_of(values, block[0], block[1]))
    return [other for other in blocks if not cells.isdisjoint(cells_of(values, other[0], other[1]))]


def taken_cells(values, blocks):
    return {cell for address, level, _ in blocks for cell in cells_of(values, address, level)}


def regions(values, length, level):
    """Return the addresses of all regions of the level."""
    return [address for address in range(length) if address % values[level] == 0 and address + values[level] <= length]


def regions_without(values, length, level, cells):
    """Return the addresses of the regions of the level that contain none of these cells."""
    return [address for address in regions(values, length, level)
            if cells.isdisjoint(cells_of(values, address, level))]


def free_regions(values, length, blocks, level):
    return regions_without(values, length, level, taken_cells(values, blocks))


def maximal_free(values, length, cells):
    """Return the maximal regions (level, address) without these cells, by address."""
    found = []
    covered = set()
    for level in reversed(range(len(values))):
        for address in regions_without(values, length, level, cells):
            if address not in covered:
                found.append((level, address))
                covered.update(cells_of(values, address, level))
    return sorted(found, key=lambda region: region[1])


def free_runs(values, length, blocks):
    runs = []
    for level, address in maximal_free(values, length, taken_cells(values, blocks)):
        if runs and runs[-1][0] == level and runs[-1][1] + runs[-1][2] * values[level] == address:
            runs[-1] = (level, runs[-1][1], runs[-1][2] + 1)
        else:
            runs.append((level, address, 1))
    return runs


def clear_cells(values, length, blocks, level):
    pinned = taken_cells(values, [block for block in blocks if block[2]])
    return len(regions_without(values, length, level, pinned)) * values[level]


def unpinned_cells(values, blocks, level):
    return sum(values[block[1]] for block in blocks if not block[2] and block[1] >= level)


def pieces(values, cells):
    """Return the levels of the pieces, found by taking away the largest one that fits, again and again."""
    levels = []
    for level in reversed(range(len(values))):
        while cells >= values[level]:
            levels.append(level)
            cells -= values[level]
    return levels


def slack(values, length, blocks, level, kept=()):
    found = clear_cells(values, length, blocks, level) - unpinned_cells(values, blocks, level)
    for cells in kept:
        found -= sum(values[piece] for piece in pieces(values, cells) if piece >= level)
    return found


def short_level(values, length, blocks, numbers):
    for level in range(len(values)):
        if slack(values, length, blocks, level, numbers) < 0:
            return level
    return None


def rest_counts(values, length, blocks):
    slacks = [slack(values, length, blocks, level) for level in range(len(values))]
    return [min(slacks[:level + 1]) // values[level] for level in range(len(values))]


def can_place(values, length, cells, levels):
    """Return whether disjoint regions of these levels exist without these cells, by trying all places."""
    @functools.lru_cache(maxsize=None)
    def tried(taken, at, lowest):
        if at == len(levels):
            return True
        level = levels[at]
        for address in regions_without(values, length, level, taken):
            # Pieces of one level can be exchanged: it is enough to try them by address.
            same = at + 1 < len(levels) and levels[at + 1] == level
            if address >= lowest and tried(taken | set(cells_of(values, address, level)), at + 1,
                                           address if same else 0):
                return True
        return False

    return tried(frozenset(cells), 0, 0)


def has_arrangement(values, length, blocks, numbers):
    """Return whether all unpinned blocks and the pieces of the numbers have room together somewhere."""
    pinned = taken_cells(values, [block for block in blocks if block[2]])
    levels = [block[1] for block in blocks if not block[2]]
    for cells in numbers:
        levels += pieces(values, cells)
    if sum(values[level] for level in levels) + len(pinned) > length:
        return False
    return can_place(values, length, pinned, tuple(sorted(levels, reverse=True)))


def has_free_regions(values, length, blocks, cells):
    """Return whether all pieces have free regions at the same time, without any move."""
    return can_place(values, length, taken_cells(values, blocks), tuple(pieces(values, cells)))


def chosen_addresses(values, length, blocks, cells):
    """Return the addresses that the rule chooses, piece by piece, or None."""
    taken = taken_cells(values, blocks)
    addresses = []
    for level in pieces(values, cells):
        large = [region for region in maximal_free(values, length, taken) if region[0] >= level]
        if not large:
            return None
        addresses.append(min(large)[1])
        taken = taken | set(cells_of(values, addresses[-1], level))
    return addresses


def blocks_after(blocks, moves):
    """Return the blocks after moves that are done at once."""
    goals = dict(moves)
    return sorted((goals.get(address, address), level, is_pinned) for address, level, is_pinned in blocks)


def is_number(value):
    return type(value) is int


def wrong_move(values, length, blocks, moves):
    """Return the position of the first problem of a list of moves of a layout, or None."""
    if type(moves) is not list:
        return 0
    starts = {address: level for address, level, is_pinned in blocks if not is_pinned}
    olds = []
    for position, move in enumerate(moves):
        if type(move) is not tuple or len(move) != 2 or not all(is_number(part) and part >= 0 for part in move):
            return position
        old, new = move
        if old == new or old in olds or old not in starts or new not in regions(values, length, starts[old]):
            return position
        olds.append(old)
    staying = [block for block in blocks if block[0] not in olds]
    moved = [(new, starts[old], False) for old, new in moves]
    for position, block in enumerate(moved):
        if overlapping(values, block, staying + moved[:position] + moved[position + 1:]):
            return position
    return None


def makes_room(values, length, blocks, cells, value):
    """Return whether (moves, addresses) is room for so many cells, if it may have any moves."""
    moves, addresses = value
    levels = pieces(values, cells)
    if wrong_move(values, length, blocks, moves) is not None or len(addresses) != len(levels):
        return False
    moved = [level for address, level, _ in blocks if address in dict(moves)]
    if any(level >= levels[0] for level in moved) or sum(values[level] for level in moved) > cells * levels[0]:
        return False
    taken = taken_cells(values, blocks_after(blocks, moves))
    for level, address in zip(levels, addresses):
        if address not in regions_without(values, length, level, taken):
            return False
        taken = taken | set(cells_of(values, address, level))
    return True


def is_room(values, length, blocks, cells, value):
    """Return whether a tuple (moves, addresses) of two lists of the right kinds is room for so many cells."""
    if value[0] and has_free_regions(values, length, blocks, cells):
        return False
    return makes_room(values, length, blocks, cells, value)
