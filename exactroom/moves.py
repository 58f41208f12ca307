"""Rearrangements: moves of unpinned blocks, all done at once."""

from exactroom.errors import InvalidMoves
from exactroom.plans import Plan
from exactroom.regions import is_address, is_region


def is_move(value):
    """Return whether the value, of any kind, is a tuple of two different addresses."""
    if not isinstance(value, tuple) or len(value) != 2:
        return False
    old, new = value
    return is_address(old) and is_address(new) and old != new


def first_misfit(layout, moves):
    """Return the index of the first element that moves no unpinned block, or not to a region, or None."""
    levels = layout.unpinned_levels()
    for position, move in enumerate(moves):
        if not is_move(move) or move[0] not in levels:
            return position
        # A block that has been moved is not there for a second move.
        level = levels.pop(move[0])
        if not is_region(layout.sizes, layout.length, level, move[1]):
            return position
    return None


def places_after(layout, moves):
    """Return tuples (low, high, index of its move) of all blocks; the index is len(moves) if there is no move."""
    goals = {old: (new, index) for index, (old, new) in enumerate(moves)}
    places = []
    for address, level, is_pinned in layout.blocks():
        low, index = goals.get(address, (address, len(moves)))
        places.append((low, low + layout.sizes.size(level), index))
    return sorted(places)


def first_clash(layout, moves):
    """Return the index of the first move whose block is not disjoint from another one afterwards, or None."""
    places = places_after(layout, moves)
    # Blocks without a move are disjoint from each other, so wherever blocks meet, one of them was moved.
    first = len(moves)
    end = 0
    for at, (low, high, index) in enumerate(places):
        meets_next = at + 1 < len(places) and places[at + 1][0] < high
        if low < end or meets_next:
            first = min(first, index)
        end = max(end, high)
    return first if first < len(moves) else None


def first_wrong_move(layout, value):
    """Return the position of the first problem of a value that shall be a rearrangement, or None."""
    if not isinstance(value, list):
        return 0
    position = first_misfit(layout, value)
    return first_clash(layout, value) if position is None else position


def check_rearrangement(layout, value):
    """Raise InvalidMoves if the value is no rearrangement of the layout."""
    position = first_wrong_move(layout, value)
    if position is not None:
        raise InvalidMoves(position)


def is_rearrangement(layout, value):
    """Return whether the value, of any kind, is a rearrangement of the layout."""
    return first_wrong_move(layout, value) is None


def rearranged(layout, moves):
    """Return a new layout after the rearrangement."""
    check_rearrangement(layout, moves)
    levels = layout.unpinned_levels()
    after = layout.clone()
    for old, new in moves:
        after.take_out(old)
    for old, new in moves:
        after.put(levels[old], new)
    return after


def cost(layout, moves):
    """Return the number of cells of the moved blocks."""
    check_rearrangement(layout, moves)
    levels = layout.unpinned_levels()
    return sum([layout.sizes.size(levels[old]) for old, new in moves])


def moved_level(layout, moves):
    """Return the highest level of a moved block, or None if there is no move."""
    check_rearrangement(layout, moves)
    levels = layout.unpinned_levels()
    return max([levels[old] for old, new in moves], default=None)


def check_moves(value):
    """Raise InvalidMoves if the value is no list of moves from different addresses to different addresses."""
    if not isinstance(value, list):
        raise InvalidMoves(0)
    olds = set()
    news = set()
    for position, move in enumerate(value):
        if not is_move(move) or move[0] in olds or move[1] in news:
            raise InvalidMoves(position)
        olds.add(move[0])
        news.add(move[1])


def inverse(moves):
    """Return the moves that bring every block back, by their old address."""
    check_moves(moves)
    return sorted([(new, old) for old, new in moves])


def composed(first, second):
    """Return the rearrangement that does the first one and then the second one, by old address."""
    check_moves(first)
    check_moves(second)
    onward = {old: new for old, new in second}
    moves = []
    for old, between in first:
        moves.append((old, onward.pop(between, between)))
    # What is left moves blocks that the first rearrangement did not move.
    moves += list(onward.items())
    return sorted([(old, new) for old, new in moves if old != new])


def cheapest_region(layout, level):
    """Return the address of the region that costs least to empty, and its cells in blocks, or None."""
    return Plan(layout).cheapest(level)
