"""Which values may come for an argument, and the errors that the others raise."""

from starlands.errors import (
    BadAreas, BadArms, BadCell, BadCells, BadCount, BadLand, BadLands, BadLength, BadMap, BadOrders, BadPairs,
    BadPrices, BadRows, BadRule, BadTaking, BadTold, BadTries, BadValues,
)

MOST_ARMS = 4
MOST_LENGTH = 4
LAST_LAND = 4
MOST_CELLS = 17
MOST_WORTH = 100
MOST_PRICE = 1000
MOST_TRIES = 40
MOST_FOLLOWERS = 8
GREAT_ARMS = 12
GREAT_LENGTH = 30


def is_whole(value):
    """True for integers; True and False are none here."""
    return isinstance(value, int) and not isinstance(value, bool)


def is_integer(value, low, high):
    """Whether the value is an integer from low to high."""
    return is_whole(value) and low <= value <= high


def are_integers(value, low, high):
    """Whether the value is a tuple of integers from low to high."""
    return isinstance(value, tuple) and all(is_integer(thing, low, high) for thing in value)


def is_pair(value):
    """Whether the value is a tuple of two things."""
    return isinstance(value, tuple) and len(value) == 2


def inner_cell(length, cell):
    """The neighbor of a cell of an arm on the side of the hub."""
    return cell - 1 if (cell - 1) % length else 0


def length_of(chart):
    """The length of the arms of a map."""
    return (len(chart[1]) - 1) // chart[0]


def hang_together(length, cells):
    """Whether the lands are 0, 1, .. without a gap, and each hangs together."""
    lands = max(cells) + 1
    if len(set(cells)) != lands:
        return False
    crossings = [cell for cell in range(1, len(cells)) if cells[cell] != cells[inner_cell(length, cell)]]
    # An island has no rounds: so many borders part it into one piece more than borders.
    return len(crossings) + 1 == lands


def is_chart(value):
    """Whether the value is a map."""
    if not is_pair(value):
        return False
    arms, cells = value
    if not is_integer(arms, 3, MOST_ARMS) or not isinstance(cells, tuple):
        return False
    length, rest = divmod(len(cells) - 1, arms)
    if rest != 0 or not 1 <= length <= MOST_LENGTH:
        return False
    if not are_integers(cells, 0, length) or max(cells) == 0:
        return False
    return hang_together(length, cells)


def is_like(one, other):
    """Whether two maps are of one island and have as many lands."""
    return one[0] == other[0] and len(one[1]) == len(other[1]) and max(one[1]) == max(other[1])


def is_land(chart, value):
    """Whether the value is a land of the map."""
    return is_integer(value, 0, max(chart[1]))


def is_taking(chart, value):
    """Whether the value is a pair of a land and a cell of the map."""
    return is_pair(value) and is_land(chart, value[0]) and is_integer(value[1], 0, len(chart[1]) - 1)


def are_values(value, lands, cells):
    """Whether the value is values for so many lands and cells."""
    if not isinstance(value, tuple) or len(value) != lands:
        return False
    return all(are_integers(part, -MOST_WORTH, MOST_WORTH) and len(part) == cells for part in value)


def is_told_row(value, number, most):
    """Whether the value is a pair of just this number and a tuple of at most so many things."""
    if not is_pair(value) or not is_whole(value[0]) or value[0] != number:
        return False
    return isinstance(value[1], tuple) and len(value[1]) <= most


def check_arms(arms, most=MOST_ARMS):
    """BadArms for what is no number of arms."""
    if not is_integer(arms, 3, most):
        raise BadArms(f"no integer from 3 to {most}")


def check_length(length, most=MOST_LENGTH):
    """BadLength for what is no length of an arm."""
    if not is_integer(length, 1, most):
        raise BadLength(f"no integer from 1 to {most}")


def check_lands(length, lands):
    """BadLands for what is no number of lands on arms of a length."""
    if not is_integer(lands, 2, length + 1):
        raise BadLands(f"no integer from 2 to {length + 1}")


def check_island(arms, length, lands):
    """BadArms, BadLength or BadLands for what is no island with so many lands."""
    check_arms(arms)
    check_length(length)
    check_lands(length, lands)


def check_great_island(arms, length, lands):
    """As `check_island`, for islands of up to 12 arms of up to 30 cells."""
    check_arms(arms, GREAT_ARMS)
    check_length(length, GREAT_LENGTH)
    check_lands(length, lands)


def check_chart(chart):
    """BadMap for what is no map."""
    if not is_chart(chart):
        raise BadMap("no map")


def check_both(one, other):
    """BadMap for what are not two maps of one island and with as many lands."""
    check_chart(one)
    check_chart(other)
    if not is_like(one, other):
        raise BadMap("not of the island or the number of lands of the first map")


def check_cell(cell, cells):
    """BadCell for what is none of so many cells."""
    if not is_integer(cell, 0, cells - 1):
        raise BadCell(f"no cell from 0 to {cells - 1}")


def check_land(chart, land):
    """BadLand for what is no land of the map."""
    if not is_land(chart, land):
        raise BadLand("no land of the map")


def check_hub(hub):
    """BadLand for what is no land of any map."""
    if not is_integer(hub, 0, LAST_LAND):
        raise BadLand(f"no integer from 0 to {LAST_LAND}")


def check_arm(chart, arm):
    """BadArms for what is no arm of the map."""
    if not is_integer(arm, 0, chart[0] - 1):
        raise BadArms(f"no arm from 0 to {chart[0] - 1}")


def check_taking(chart, taking):
    """BadTaking for what is no pair of a land and a cell of the map."""
    if not is_taking(chart, taking):
        raise BadTaking("no pair of a land and a cell of the map")


def check_count(many, low, high):
    """BadCount for what is no integer from low to high."""
    if not is_integer(many, low, high):
        raise BadCount(f"no integer from {low} to {high}")


def check_values(chart, values):
    """BadValues for what is no values for the lands and cells of the map."""
    if not are_values(values, max(chart[1]) + 1, len(chart[1])):
        raise BadValues("no values for the lands and cells of the map")


def check_told(cells, lands, told):
    """BadTold for what is no told cells of an island of so many cells with so many lands."""
    if not isinstance(told, tuple):
        raise BadTold(None)
    behind = 0
    for index, pair in enumerate(told):
        if not is_pair(pair) or not is_integer(pair[0], behind, cells - 1) or not is_integer(pair[1], 0, lands - 1):
            raise BadTold(index)
        behind = pair[0] + 1


def check_rule(chart, rule):
    """BadRule for what is no rule for the lands of the map."""
    if not isinstance(rule, tuple):
        raise BadRule(None)
    before = (-1, -1)
    for index, pair in enumerate(rule):
        if not is_rule_pair(chart, pair) or pair <= before:
            raise BadRule(index)
        before = pair


def is_rule_pair(chart, value):
    """Whether the value is a pair of unlike lands of the map."""
    return is_pair(value) and is_land(chart, value[0]) and is_land(chart, value[1]) and value[0] != value[1]


def check_prices(chart, prices):
    """BadPrices for what is no prices for the lands of the map."""
    if not are_integers(prices, 0, MOST_PRICE) or len(prices) != max(chart[1]) + 1:
        raise BadPrices(f"no integer from 0 to {MOST_PRICE} for each land")


def check_order(many, order):
    """BadOrders for what is no tuple of the integers from 0 to less than so many, each once."""
    if not are_integers(order, 0, many - 1) or len(order) != many or len(set(order)) != many:
        raise BadOrders(f"no tuple of the integers from 0 to {many - 1}, each once")


def check_tries(lands, cells, tries):
    """BadTries for what is no tuple of at most 40 pairs, each of one of so many lands and one of so many cells."""
    if not isinstance(tries, tuple) or len(tries) > MOST_TRIES:
        raise BadTries(None)
    for index, pair in enumerate(tries):
        if not is_pair(pair) or not is_integer(pair[0], 0, lands - 1) or not is_integer(pair[1], 0, cells - 1):
            raise BadTries(index)


def check_followers(chart, lands):
    """BadRows for what is no tuple of 1 to 8 things, BadLand if these are no lands, unlike neighbors."""
    if not isinstance(lands, tuple) or not 1 <= len(lands) <= MOST_FOLLOWERS:
        raise BadRows(f"no tuple of 1 to {MOST_FOLLOWERS} things")
    before = None
    for land in lands:
        check_land(chart, land)
        if land == before:
            raise BadLand("two alike lands next to each other")
        before = land


def check_areas(lands, areas):
    """BadAreas for what is no tuple of areas of so many lands."""
    if not are_integers(areas, 1, MOST_CELLS) or len(areas) != lands:
        raise BadAreas(f"no integer from 1 to {MOST_CELLS} for each land")


def check_pairs(lands, pairs):
    """BadPairs for what is no ascending tuple of unlike pairs of so many lands, the lesser first."""
    if not isinstance(pairs, tuple):
        raise BadPairs("no tuple")
    before = (-1, -1)
    for pair in pairs:
        if not are_integers(pair, 0, lands - 1) or len(pair) != 2 or pair[0] >= pair[1] or pair <= before:
            raise BadPairs("no ascending tuple of unlike pairs of lands, the lesser first")
        before = pair


def check_cells(many, cells):
    """BadCells for what is no ascending tuple of unlike ones of so many cells."""
    if not are_integers(cells, 0, many - 1) or cells != tuple(sorted(set(cells))):
        raise BadCells(f"no ascending tuple of unlike cells from 0 to {many - 1}")
