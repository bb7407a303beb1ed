"""Areas to come: which areas the lands can have, how soon and how often."""

from starlands.chances import class_weights
from starlands.checks import check_areas, check_arms, check_chart, check_land, check_length
from starlands.classes import class_maps, steps_from
from starlands.errors import BadAreas
from starlands.islands import land_areas
from starlands.ratios import ratio


def area_lists(chart):
    """The areas of the maps of the class, ascending, each once."""
    return tuple(sorted(set([land_areas(some[1]) for some in class_maps(chart)])))


def area_maps(chart, areas):
    """The maps of the class with these areas, ascending."""
    return tuple([(chart[0], cells) for cells in sorted(area_steps(chart, areas))])


def area_distance(chart, areas):
    """The least number of takings to a map with these areas, None if there is none."""
    return min(area_steps(chart, areas).values(), default=None)


def area_steps(chart, areas):
    """For the cells of each map of the class with these areas, its distance from the map."""
    check_chart(chart)
    check_areas(max(chart[1]) + 1, areas)
    return {cells: many for cells, many in steps_from(chart).items() if land_areas(cells) == areas}


def area_count(arms, length, areas):
    """The number of all maps of an island with these areas."""
    check_arms(arms)
    check_length(length)
    lands = len(areas) if isinstance(areas, tuple) else 0
    check_areas(lands, areas)
    if not 2 <= lands <= length + 1 or sum(areas) != arms * length + 1:
        raise BadAreas("not of 2 to length and 1 lands, or not of the sum of the cells")
    return sum([count_on_arms(arms, length, areas[:hub] + areas[hub + 1:]) for hub in range(lands)])


def count_on_arms(arms, length, sizes):
    """The number of ways to place lands of these sizes on the arms; the hub's land has the cells that are left."""
    # By the arms, for each one the number of cells left and the number of lands on it: how many ways.
    ways = {((length, 0),) * arms: 1}
    for size in sizes:
        ahead = {}
        for state, many in ways.items():
            for arm, (left, lands) in enumerate(state):
                if size <= left:
                    key = state[:arm] + ((left - size, lands + 1),) + state[arm + 1:]
                    # The land comes ahead of all lands on the arm, or behind any of them.
                    ahead[key] = ahead.get(key, 0) + many * (lands + 1)
        ways = ahead
    return sum(ways.values())


def area_shares(chart, land):
    """The shares of time, in the long run, in which the land has 0, 1, 2, .. cells, up to the most it can have."""
    check_chart(chart)
    check_land(chart, land)
    weights = class_weights(chart)
    sums = [0] * (max([cells.count(land) for cells in weights]) + 1)
    for cells, weight in weights.items():
        sums[cells.count(land)] += weight
    total = sum(sums)
    return tuple([ratio(part, total) for part in sums])
