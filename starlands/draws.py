"""By draws: a land and a cell are drawn, and the taking is made if it can be."""

from starlands.chances import chances_behind, check_few, mean_until
from starlands.checks import check_chart, check_count
from starlands.classes import class_size, steps_from
from starlands.islands import touch_table
from starlands.ratios import ratio
from starlands.takings import made, ready_takings

MOST_DRAWN = 4


def drawn_chances(chart, many):
    """The maps that may be there behind so many draws, ascending, with their chances."""
    check_chart(chart)
    check_count(many, 0, MOST_DRAWN)
    return chances_behind(chart, many, drawn_choices)


def drawn_choices(table, cells):
    """The cells that may be there behind a draw, and by how many pairs that are drawn."""
    ready = ready_takings(table, cells)
    return [(cells, pair_count(cells) - len(ready))] + [(made(cells, taking), 1) for taking in ready]


def pair_count(cells):
    """The number of pairs of a land and a cell."""
    return (max(cells) + 1) * len(cells)


def drawn_share(chart):
    """The share of time, in the long run, in which the map is there: that of all maps of its class."""
    return (1, class_size(chart))


def still_chance(chart):
    """The chance that the map stays at one draw."""
    check_chart(chart)
    pairs = pair_count(chart[1])
    return ratio(pairs - len(ready_takings(touch_table(chart), chart[1])), pairs)


def drawn_first(one, other):
    """The mean number of draws until the second map is there for the first time, 0 if it is the first."""
    check_few(one, other)
    pairs = pair_count(one[1])
    return mean_until(one, [other[1]], {cells: pairs for cells in steps_from(one)})
