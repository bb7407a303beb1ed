"""In the middle: maps between others, near to several, and ways along all of them."""

from itertools import permutations

from starlands.checks import check_chart, is_chart
from starlands.classes import check_one_class, same_class, steps_from
from starlands.errors import BadMaps
from starlands.islands import touch_table
from starlands.takings import made, ready_takings

MOST_SOME = 5


def between(one, other):
    """The maps on some shortest row from the one map to the other, both too, ascending."""
    check_one_class(one, other)
    ahead = steps_from(one)
    # Each taking can be taken back: so far it is to the other map as from it.
    back = steps_from(other)
    least = ahead[other[1]]
    return tuple([(one[0], cells) for cells in sorted(ahead) if ahead[cells] + back[cells] == least])


def shortest_count(one, other):
    """The number of the shortest rows that make the second map of the first."""
    check_one_class(one, other)
    table = touch_table(one)
    steps = steps_from(one)
    ways = {one[1]: 1}
    # The maps come with their steps ascending: the ways to a map are all there when its turn is.
    for cells, many in steps.items():
        for taking in ready_takings(table, cells):
            behind = made(cells, taking)
            if steps[behind] > many:
                ways[behind] = ways.get(behind, 0) + ways[cells]
    return ways[other[1]]


def middle_maps(some):
    """The maps of the class with the least sum of distances to some maps, ascending."""
    sums = way_sums(some)
    least = min(sums.values())
    return tuple([(some[0][0], cells) for cells in sorted(sums) if sums[cells] == least])


def sum_of_ways(some):
    """The least sum of distances from a map of the class to some maps."""
    return min(way_sums(some).values())


def way_sums(some):
    """For the cells of each map of the class, the sum of the distances to some maps."""
    check_tuple(some)
    check_of_class(some[0], some)
    tables = [steps_from(chart) for chart in some]
    return {cells: sum([steps[cells] for steps in tables]) for cells in tables[0]}


def check_tuple(some):
    """BadMaps for what is no tuple of 1 to 5 things."""
    if not isinstance(some, tuple) or not 1 <= len(some) <= MOST_SOME:
        raise BadMaps(None)


def check_of_class(first, some):
    """BadMaps for things of which one is no map, or not of the class of the first map."""
    for index, chart in enumerate(some):
        if not is_chart(chart) or not same_class(first, chart):
            raise BadMaps(index)


def tour(one, some):
    """The least number of takings from a map along some maps in any order, and the smallest order with so few."""
    check_chart(one)
    check_tuple(some)
    check_of_class(one, some)
    tables = [steps_from(chart) for chart in some]
    lengths = []
    for order in permutations(range(len(some))):
        onward = [tables[here][some[there][1]] for here, there in zip(order, order[1:])]
        lengths.append((tables[order[0]][one[1]] + sum(onward), order))
    return min(lengths)
