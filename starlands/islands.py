"""Islands and maps: their cells, arms and lands."""

from starlands.checks import (
    LAST_LAND, MOST_LENGTH, are_integers, check_arm, check_arms, check_cell, check_chart, check_hub, check_land,
    check_length, inner_cell, is_chart, length_of,
)
from starlands.errors import BadRows


def cell_count(arms, length):
    """The number of cells of an island."""
    check_arms(arms)
    check_length(length)
    return arms * length + 1


def touching(arms, length, cell):
    """The cells that touch a cell, ascending."""
    check_arms(arms)
    check_length(length)
    check_cell(cell, arms * length + 1)
    return touching_cells(arms, length, cell)


def touching_cells(arms, length, cell):
    """As `touching`, for what has been checked."""
    if cell == 0:
        return tuple([1 + arm * length for arm in range(arms)])
    inner = inner_cell(length, cell)
    if cell % length == 0:
        return (inner,)
    return (inner, cell + 1)


def touch_table(chart):
    """For each cell of a map, the cells that touch it."""
    arms, cells = chart
    length = length_of(chart)
    return [touching_cells(arms, length, cell) for cell in range(len(cells))]


def land_count(chart):
    """The number of lands."""
    check_chart(chart)
    return max(chart[1]) + 1


def cells_of(chart, land):
    """The cells of a land, ascending."""
    check_chart(chart)
    check_land(chart, land)
    return tuple([cell for cell, holder in enumerate(chart[1]) if holder == land])


def arm_of(chart, arm):
    """The lands of an arm's cells, outward."""
    check_chart(chart)
    check_arm(chart, arm)
    return arm_rows(chart)[arm]


def arm_rows(chart):
    """For each arm of a map, the lands of its cells, outward."""
    arms, cells = chart
    length = length_of(chart)
    return [cells[1 + arm * length:1 + (arm + 1) * length] for arm in range(arms)]


def areas(chart):
    """The numbers of cells of all lands."""
    check_chart(chart)
    return land_areas(chart[1])


def land_areas(cells):
    """As `areas`, for the cells of a map."""
    return tuple([cells.count(land) for land in range(max(cells) + 1)])


def map_of(hub, rows):
    """The map with this land at the hub and these lands on its arms, None if that is no map."""
    check_hub(hub)
    if not are_rows(rows):
        raise BadRows("no 3 or 4 tuples of one length of integers from 0 to 4")
    chart = joined_map(hub, rows)
    return chart if is_chart(chart) else None


def are_rows(value):
    """Whether the value is a tuple of rows for the arms of an island."""
    if not isinstance(value, tuple) or len(value) not in (3, 4):
        return False
    if not all(are_integers(row, 0, LAST_LAND) for row in value):
        return False
    return 1 <= len(value[0]) <= MOST_LENGTH and all(len(row) == len(value[0]) for row in value)


def joined_map(hub, rows):
    """The pair that would be the map with this hub land and these rows of lands."""
    cells = [hub]
    for row in rows:
        cells.extend(row)
    return (len(rows), tuple(cells))
