"""Trees of lands: which lands touch, in the maps of a class and of an island."""

from starlands.borders import land_pairs, neighbors
from starlands.checks import check_chart, check_island, check_pairs
from starlands.classes import class_maps
from starlands.counts import count_with


def ever_trees(chart):
    """The tuples of the pairs of lands that touch, of all maps of the class, ascending, each once."""
    return tuple(sorted(set([land_pairs(some) for some in class_maps(chart)])))


def tree_maps(chart, pairs):
    """The maps of the class in which just these pairs of lands touch, ascending."""
    check_chart(chart)
    check_pairs(max(chart[1]) + 1, pairs)
    return tuple([some for some in class_maps(chart) if land_pairs(some) == pairs])


def tree_count(arms, length, lands, pairs):
    """The number of all maps of an island in which just these pairs of lands touch."""
    check_island(arms, length, lands)
    check_pairs(lands, pairs)
    # In each map as many pairs touch: one less than lands. So all of these do where no others do.
    if len(pairs) != lands - 1:
        return 0

    def is_allowed(_, before, land):
        return before == land or (min(before, land), max(before, land)) in pairs
    return sum([count_with(arms, length, lands, hub, is_allowed) for hub in range(lands)])


def ends(chart):
    """The lands that touch just one other, ascending."""
    check_chart(chart)
    return tuple([land for land in range(max(chart[1]) + 1) if len(neighbors(chart, land)) == 1])
