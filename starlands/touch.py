"""Who touches whom, in a map and in its class."""

from starlands.borders import borders, land_pairs, neighbors
from starlands.checks import check_chart, check_land
from starlands.classes import class_maps
from starlands.islands import areas, touch_table
from starlands.takings import can_make


def area_ranges(chart):
    """For each land the least and the greatest area in the maps of the class."""
    lists = [areas(some) for some in class_maps(chart)]
    ranges = []
    for land in range(len(lists[0])):
        sizes = [row[land] for row in lists]
        ranges.append((min(sizes), max(sizes)))
    return tuple(ranges)


def ever_touch(chart):
    """The pairs of lands that touch in some map of the class, ascending."""
    return tuple(sorted(touch_counts(class_maps(chart))))


def always_touch(chart):
    """The pairs of lands that touch in all maps of the class, ascending."""
    maps = class_maps(chart)
    counts = touch_counts(maps)
    return tuple([pair for pair in sorted(counts) if counts[pair] == len(maps)])


def touch_counts(maps):
    """For each pair of lands that touch in some of the maps, in how many of them."""
    counts = {}
    for chart in maps:
        for pair in land_pairs(chart):
            counts[pair] = counts.get(pair, 0) + 1
    return counts


def line(chart, one, other):
    """The lands through which one comes from the one land to the other over land, both too."""
    check_chart(chart)
    check_land(chart, one)
    check_land(chart, other)
    onward = ways_to(chart, other)
    lands = [one]
    while lands[-1] != other:
        lands.append(onward[lands[-1]])
    return tuple(lands)


def ways_to(chart, goal):
    """For each land the next one on the way to the goal."""
    onward = {goal: goal}
    waiting = [goal]
    while waiting:
        land = waiting.pop()
        for near in neighbors(chart, land):
            if near not in onward:
                onward[near] = land
                waiting.append(near)
    return onward


def border_moves(chart):
    """For each border the number of takings that can be made over it."""
    check_chart(chart)
    table = touch_table(chart)
    cells = chart[1]
    moves = []
    for inner, outer in borders(chart):
        outward = can_make(table, cells, (cells[inner], outer))
        inward = can_make(table, cells, (cells[outer], inner))
        moves.append(((inner, outer), int(outward) + int(inward)))
    return tuple(moves)
