"""From map to map: the shortest rows, and how many there are."""

from starlands.checks import check_both, check_chart, check_count
from starlands.classes import steps_from
from starlands.islands import touch_table
from starlands.takings import leads_to, made, ready_takings

MOST_AROUND = 60
MOST_WAYS = 8


def distance(one, other):
    """The least number of takings that make the second map of the first, None if none do."""
    check_both(one, other)
    return steps_from(one).get(other[1])


def fewest(one, other):
    """The smallest of the shortest rows that make the second map of the first, None if there is none."""
    check_both(one, other)
    steps = steps_from(other)
    if one[1] not in steps:
        return None
    table = touch_table(one)
    cells = one[1]
    row = []
    while cells != other[1]:
        taking = nearing(table, steps, cells)
        row.append(taking)
        cells = made(cells, taking)
    return tuple(row)


def nearing(table, steps, cells):
    """The smallest taking behind which there are fewer steps to go."""
    nearer = [taking for taking in ready_takings(table, cells) if steps[made(cells, taking)] < steps[cells]]
    return nearer[0]


def shows_fewest(one, other, value):
    """Whether the value is some shortest row, or rightly None."""
    least = distance(one, other)
    if least is None:
        return value is None
    return isinstance(value, tuple) and len(value) == least and leads_to(one, other, value)


def farthest(chart):
    """The greatest distance from a map to one of its class."""
    check_chart(chart)
    return max(steps_from(chart).values())


def around(chart, many):
    """All maps at just this distance, ascending."""
    check_chart(chart)
    check_count(many, 0, MOST_AROUND)
    return tuple(sorted([(chart[0], cells) for cells, steps in steps_from(chart).items() if steps == many]))


def way_count(one, other, many):
    """The number of rows of just so many takings that make the second map of the first."""
    check_both(one, other)
    check_count(many, 0, MOST_WAYS)
    table = touch_table(one)
    ways = {one[1]: 1}
    for _ in range(many):
        ahead = {}
        for cells, rows in ways.items():
            for taking in ready_takings(table, cells):
                behind = made(cells, taking)
                ahead[behind] = ahead.get(behind, 0) + rows
        ways = ahead
    return ways.get(other[1], 0)
