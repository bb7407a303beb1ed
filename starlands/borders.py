"""Borders: where the lands meet, and in which orders."""

from starlands.checks import (
    LAST_LAND, are_integers, check_chart, check_hub, check_land, check_length, inner_cell, is_chart, length_of,
)
from starlands.errors import BadOrders, BadPlaces
from starlands.islands import arm_rows, joined_map


def borders(chart):
    """The pairs of touching cells of unlike lands, the lesser cell first."""
    check_chart(chart)
    cells = chart[1]
    length = length_of(chart)
    pairs = [(inner_cell(length, cell), cell) for cell in range(1, len(cells))]
    return tuple(sorted([pair for pair in pairs if cells[pair[0]] != cells[pair[1]]]))


def orders(chart):
    """For each arm the lands met outward along it, each once, without the hub's."""
    check_chart(chart)
    return tuple([lands_met(chart[1][0], row) for row in arm_rows(chart)])


def lands_met(hub, row):
    """The lands that one meets behind the hub land along an arm."""
    met = []
    before = hub
    for land in row:
        if land != before:
            met.append(land)
        before = land
    return tuple(met)


def arrangement_of(chart):
    """The pair of the hub's land and the orders of a map."""
    return (chart[1][0], orders(chart))


def hub_land(chart):
    """The land that holds the hub."""
    check_chart(chart)
    return chart[1][0]


def land_pairs(chart):
    """The pairs of lands that touch, the lesser first."""
    check_chart(chart)
    cells = chart[1]
    pairs = [(cells[inner], cells[outer]) for inner, outer in borders(chart)]
    return tuple(sorted([(min(one, other), max(one, other)) for one, other in pairs]))


def neighbors(chart, land):
    """The lands that touch a land."""
    check_chart(chart)
    check_land(chart, land)
    pairs = land_pairs(chart)
    lower = [one for one, other in pairs if other == land]
    upper = [other for one, other in pairs if one == land]
    return tuple(lower + upper)


def from_orders(length, hub, orders, places):
    """The map with this hub land, these orders and borders at these places, None if that is no map."""
    check_length(length)
    check_hub(hub)
    if not are_orders(orders):
        raise BadOrders("no 3 or 4 tuples of integers from 0 to 4")
    if not are_places(places, length, orders):
        raise BadPlaces("no ascending places for the borders of these orders")
    rows = [placed_row(length, hub, order, spots) for order, spots in zip(orders, places)]
    chart = joined_map(hub, rows)
    # Two like lands with a border between them would melt into one without it.
    unmet = [order for order, row in zip(orders, rows) if lands_met(hub, row) != order]
    return chart if is_chart(chart) and not unmet else None


def are_orders(value):
    """Whether the value is a tuple of orders for the arms of an island."""
    if not isinstance(value, tuple) or len(value) not in (3, 4):
        return False
    return all(are_integers(order, 0, LAST_LAND) for order in value)


def are_places(value, length, wanted):
    """Whether the value is a tuple of places of borders, as many on each arm as the order has lands."""
    if not isinstance(value, tuple) or len(value) != len(wanted):
        return False
    if not all(are_integers(spots, 0, length - 1) for spots in value):
        return False
    if not all(spots == tuple(sorted(set(spots))) for spots in value):
        return False
    return all([len(spots) == len(order) for order, spots in zip(wanted, value)])


def placed_row(length, hub, order, spots):
    """The lands of an arm's cells, if the lands of the order begin at these places."""
    row = []
    land = hub
    for place in range(length):
        if place in spots:
            land = order[spots.index(place)]
        row.append(land)
    return tuple(row)
