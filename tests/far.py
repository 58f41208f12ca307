"""Long layouts with large sizes, and looks at them that do not go through all cells."""

MILLION = 10 ** 6
TRILLION = 10 ** 12
FAR = [
    ([1, MILLION, 10 ** 9], TRILLION), ([1, MILLION], TRILLION - 1), ([1, 1000, 10 ** 9], TRILLION - 1),
    ([1, 2, 2 * MILLION, 4 * MILLION], 10 ** 11 + 7), ([1, 999983], TRILLION), ([1], TRILLION), ([1, 10 ** 9], 5),
    ([1, 7, 7 * MILLION, 70 * MILLION, 700 * MILLION], TRILLION - 3),
    ([1, 10, 100, 1000, 10 ** 4, 10 ** 5, MILLION, 10 ** 9], TRILLION - 999),
]
# Lengths of a few large regions, so that a block in the wrong place can be in the way of a large piece.
TIGHT = [
    ([1, 2, 2 * MILLION, 4 * MILLION], 20 * MILLION + 3), ([1, MILLION, 3 * MILLION, 6 * MILLION], 24 * MILLION + 5),
    ([1, 7, 7 * MILLION, 14 * MILLION, 28 * MILLION], 140 * MILLION + 9), ([1, 250 * MILLION, 10 ** 9], 5 * 10 ** 9 - 1),
]


def far_blocks(source, values, length, tries=60):
    """Return blocks that lie anywhere, some of them beside each other; about one in three is pinned."""
    blocks = {}
    for _ in range(tries):
        level = source.randrange(len(values))
        near = [address + values[block[1]] for address, block in blocks.items()]
        around = source.choice(near + [source.randrange(length), source.randrange(length), length - 1])
        address = around // values[level] * values[level]
        end = address + values[level]
        free = all(end <= other or other + values[block[1]] <= address for other, block in blocks.items())
        if free and end <= length:
            blocks[address] = (address, level, source.randrange(3) == 0)
    return sorted(blocks.values())


def untouched(values, length, blocks, level):
    """Return the number of regions of the level that contain no cell of these blocks."""
    size = values[level]
    large = sum(values[block[1]] // size for block in blocks if block[1] >= level)
    small = {block[0] // size for block in blocks if block[1] < level and (block[0] // size + 1) * size <= length}
    return length // size - large - len(small)


def slacks(values, length, blocks):
    """Return the slack of each level."""
    pinned = [block for block in blocks if block[2]]
    return [untouched(values, length, pinned, level) * size
            - sum(values[block[1]] for block in blocks if not block[2] and block[1] >= level)
            for level, size in enumerate(values)]


def are_regions(values, length, placed):
    """Return whether these tuples (address, level) are disjoint regions."""
    end = 0
    for address, level in sorted(placed):
        if address < end or address % values[level] != 0 or address + values[level] > length:
            return False
        end = address + values[level]
    return True


def is_room(values, length, blocks, levels, value):
    """Return whether (moves, addresses) is room for pieces of these levels, but for needless moves."""
    moves, addresses = value
    goals = dict(moves)
    olds = {block[0]: block[1] for block in blocks if not block[2]}
    if len(goals) != len(moves) or any(old not in olds or old == new for old, new in moves):
        return False
    moved = [olds[old] for old, _ in moves]
    cells = sum(values[level] for level in levels)
    if any(level >= levels[0] for level in moved) or len(addresses) != len(levels):
        return False
    # No more cells than were asked for are moved for each smaller size.
    if any(values[level] * moved.count(level) > cells for level in range(levels[0])):
        return False
    after = [(goals.get(address, address), level) for address, level, _ in blocks]
    return are_regions(values, length, after + list(zip(addresses, levels)))
