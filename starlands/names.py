"""Names and turns: maps with other names of the lands, and with the arms at other places."""

from itertools import permutations

from starlands.checks import check_both, check_chart, check_order
from starlands.islands import arm_rows, joined_map


def renamed(chart, order):
    """The map of the new names: the order tells each land's."""
    check_chart(chart)
    check_order(max(chart[1]) + 1, order)
    return (chart[0], tuple([order[land] for land in chart[1]]))


def turned(chart, order):
    """The map with the arms at new places: the order tells each arm's."""
    check_chart(chart)
    check_order(chart[0], order)
    return with_arms_at(chart, order)


def with_arms_at(chart, order):
    """As `turned`, for what has been checked."""
    rows = arm_rows(chart)
    return joined_map(chart[1][0], [rows[order.index(place)] for place in range(chart[0])])


def first_names(chart):
    """The smallest map that the map can be renamed to be: the lands are 0, 1, .. as they come."""
    names = {}
    for land in chart[1]:
        if land not in names:
            names[land] = len(names)
    return (chart[0], tuple([names[land] for land in chart[1]]))


def turned_forms(chart):
    """For each order of the arms, the smallest map that the map turned so can be renamed to be."""
    return [first_names(with_arms_at(chart, order)) for order in permutations(range(chart[0]))]


def alike(one, other):
    """Whether one map can be renamed and turned to be the other."""
    check_both(one, other)
    return first_names(other) in turned_forms(one)


def form(chart):
    """The smallest map that the map can be renamed and turned to be."""
    check_chart(chart)
    return min(turned_forms(chart))


def own_turns(chart):
    """The number of pairs (names, places) with which the map is renamed and turned to itself."""
    check_chart(chart)
    # Each land is met somewhere: with a place for each arm at most one order of names leads back.
    return turned_forms(chart).count(first_names(chart))
