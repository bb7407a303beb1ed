"""Calm: maps in which no land wants to take what it can."""

from starlands.checks import check_chart, check_values
from starlands.classes import class_maps, steps_by
from starlands.islands import touch_table
from starlands.takings import made, ready_takings


def wanted(chart, values):
    """The takings that can be made of cells that are worth more than 0 to the taker, ascending."""
    check_chart(chart)
    check_values(chart, values)
    return tuple(wanted_takings(touch_table(chart), chart[1], values))


def wanted_takings(table, cells, values):
    """As `wanted`, for what has been checked, as a list."""
    return [(land, cell) for land, cell in ready_takings(table, cells) if values[land][cell] > 0]


def is_calm(chart, values):
    """Whether there is no wanted taking."""
    return wanted(chart, values) == ()


def calm_maps(chart, values):
    """The calm maps of the class, ascending."""
    check_chart(chart)
    check_values(chart, values)
    table = touch_table(chart)
    return tuple([some for some in class_maps(chart) if not wanted_takings(table, some[1], values)])


def goes_calm(chart, values):
    """Whether every row of wanted takings from the map ends."""
    check_chart(chart)
    check_values(chart, values)
    left, before = wanted_ways(chart, values)
    # From the calm maps backward: all rows from a map end if all do from the maps behind its wanted takings.
    ended = [cells for cells, many in left.items() if many == 0]
    settled = 0
    while ended:
        behind = ended.pop()
        settled += 1
        for cells in before.get(behind, []):
            left[cells] -= 1
            if left[cells] == 0:
                ended.append(cells)
    return settled == len(left)


def wanted_ways(chart, values):
    """What the wanted takings make of the maps that rows of them make of a map, in two dicts by the cells of a map.

    The first one tells how many takings are wanted there, the second one of which cells wanted takings make it.
    """
    table = touch_table(chart)
    left = {}
    before = {}
    for cells in wanted_steps(chart, values):
        ready = wanted_takings(table, cells, values)
        left[cells] = len(ready)
        for taking in ready:
            before.setdefault(made(cells, taking), []).append(cells)
    return (left, before)


def wanted_steps(chart, values):
    """For the cells of each map that rows of wanted takings make of a map, the least number of takings."""
    return steps_by(chart, lambda table, cells: wanted_takings(table, cells, values))


def calm_ends(chart, values):
    """The calm maps that rows of wanted takings make of the map, ascending."""
    return tuple([(chart[0], cells) for cells in sorted(calm_steps(chart, values))])


def quickest_calm(chart, values):
    """The least number of takings of a row of wanted takings that makes a calm map, None if there is none."""
    return min(calm_steps(chart, values).values(), default=None)


def calm_steps(chart, values):
    """For the cells of each calm map that rows of wanted takings make of the map, the least number of takings."""
    check_chart(chart)
    check_values(chart, values)
    table = touch_table(chart)
    steps = wanted_steps(chart, values)
    return {cells: many for cells, many in steps.items() if not wanted_takings(table, cells, values)}
