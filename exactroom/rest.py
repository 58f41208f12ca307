"""Rest: layouts with as many free regions of each level as there can be, and how to get there."""

from exactroom.plans import Plan


def rest_counts(layout):
    """Return the greatest possible numbers of free regions, level 0 first."""
    counts = []
    least = layout.length
    for level, size in enumerate(layout.sizes.all_sizes()):
        least = min(least, layout.slack(level))
        counts.append(least // size)
    return counts


def is_at_rest(layout):
    """Return whether the layout has as many free regions of each level as possible."""
    counts = [layout.free_regions(level) for level in range(len(layout.sizes))]
    return counts == rest_counts(layout)


def settling_moves(layout):
    """Return a rearrangement after which the layout is at rest."""
    plan = Plan(layout)
    cells_aside = 0
    for level, count in reversed(list(enumerate(rest_counts(layout)))):
        size = layout.sizes.size(level)
        # What was set aside for higher levels consists of free regions of this level, too.
        plan.set_aside(level, count - cells_aside // size)
        plan.place_lost(level)
        cells_aside = count * size
    return plan.all_moves()
