"""Other lengths of a layout: whether everything fits then, and how blocks leave the addresses that are taken away."""

from exactroom.errors import InvalidNumber, Occupied
from exactroom.layouts import Layout, check_fits
from exactroom.plans import Plan
from exactroom.sizes import is_integer


def layout_of(sizes, length, blocks):
    """Return a layout with these blocks (address, level, is_pinned)."""
    layout = Layout(sizes, length)
    for address, level, is_pinned in blocks:
        layout.put(level, address, pinned=is_pinned)
    return layout


def first_pinned_from(layout, length):
    """Return the lowest address from the length on that is in a pinned block, or None."""
    for low, high in layout.pinned_ranges():
        if high > length:
            return max(low, length)
    return None


def check_length(layout, length, kept):
    """Raise NoRoom if the unpinned blocks and the kept numbers of cells would not fit with this length.

    No pinned block has a cell from the length on.
    """
    bare = layout_of(layout.sizes, length, [block for block in layout.blocks() if block[2]])
    # Wherever an unpinned block lies, it takes from each slack what a kept number of as many cells takes.
    needed = [layout.sizes.size(level) for level in layout.unpinned_levels().values()]
    check_fits(bare, [*needed, *kept])


def shortening_moves(layout, length):
    """Return a rearrangement after which no block has a cell from this length on."""
    if not is_integer(length) or not 1 <= length <= layout.length:
        raise InvalidNumber(length)
    taken = first_pinned_from(layout, length)
    if taken is not None:
        raise Occupied(taken)
    check_length(layout, length, [])
    plan = Plan(layout)
    plan.shorten(length)
    for level in range(layout.sizes.top, -1, -1):
        plan.place_lost(level)
    return plan.all_moves()
