"""Fixed cells, which no land may take."""

from starlands.checks import check_both, check_cells, check_chart
from starlands.classes import class_maps, steps_by
from starlands.takings import ready_takings


def fixed_maps(chart, cells):
    """All maps that rows of takings of other cells make of a map, ascending."""
    check_chart(chart)
    check_cells(len(chart[1]), cells)
    return tuple([(chart[0], some) for some in sorted(fixed_steps(chart, cells))])


def fixed_distance(one, other, cells):
    """The least number of takings of other cells that make the second map of the first, None if none do."""
    check_both(one, other)
    check_cells(len(one[1]), cells)
    return fixed_steps(one, cells).get(other[1])


def fixed_steps(chart, fixed):
    """For the cells of each map that takings of other than the fixed cells make of a map, the least number of them."""
    def free_takings(table, cells):
        return [taking for taking in ready_takings(table, cells) if taking[1] not in fixed]
    return steps_by(chart, free_takings)


def free_cells(chart):
    """The cells that belong to more than one land in the maps of the class, ascending."""
    maps = class_maps(chart)
    free = []
    for cell in range(len(chart[1])):
        if len(set([some[1][cell] for some in maps])) > 1:
            free.append(cell)
    return tuple(free)
