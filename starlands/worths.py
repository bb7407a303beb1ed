"""Worths: what the cells are worth to the lands, and what is best."""

from starlands.checks import (
    are_values, check_arms, check_chart, check_length, check_values, is_chart, is_like, is_pair, is_whole,
)
from starlands.classes import class_maps, same_class
from starlands.errors import BadValues
from starlands.islands import touch_table
from starlands.takings import MOST_TAKINGS, made, ready_takings


def worth(chart, values):
    """The sum, over all cells, of what each is worth to its land."""
    check_chart(chart)
    check_values(chart, values)
    return sum_of(chart[1], values)


def sum_of(cells, values):
    """As `worth`, for what has been checked."""
    return sum([values[land][cell] for cell, land in enumerate(cells)])


def best_in_class(chart, values):
    """The greatest worth of a map of the class, and the smallest map that has it."""
    check_chart(chart)
    check_values(chart, values)
    return max([(sum_of(some[1], values), some) for some in class_maps(chart)], key=lambda pair: pair[0])


def shows_best_in_class(chart, values, value):
    """Whether the value is the greatest worth of a map of the class, and a map of the class that has it."""
    best = best_in_class(chart, values)
    return is_told_best(value, best, values) and same_class(chart, value[1])


def is_told_best(value, best, values):
    """Whether the value is a pair of the best worth and a map like the best one that has it."""
    if not is_pair(value) or not is_whole(value[0]) or not is_chart(value[1]):
        return False
    return is_like(best[1], value[1]) and value[0] == best[0] == sum_of(value[1][1], values)


def best_map(arms, length, values):
    """The greatest worth of a map of so many lands as the values have, and a map that has it."""
    check_arms(arms)
    check_length(length)
    lands = len(values) if isinstance(values, tuple) else 0
    if not 2 <= lands <= length + 1 or not are_values(values, lands, arms * length + 1):
        raise BadValues("no values for the cells of the island and 2 to length and 1 lands")
    total, cells = max([best_with(arms, length, values, hub) for hub in range(lands)])
    return (total, (arms, cells))


def best_with(arms, length, values, hub):
    """The greatest worth of a map with this land at the hub, and the lands of its cells."""
    best = {1 << hub: (values[hub][0], (hub,))}
    for arm in range(arms):
        best = joined_best(hub, best, best_on_arm(length, values, hub, arm))
    return best[(1 << len(values)) - 1]


def best_on_arm(length, values, hub, arm):
    """For each set of lands, the hub's too, that can be met on an arm: the best worth of its cells, and their lands.

    A set of lands is an integer with a bit for each of them.
    """
    best = {(1 << hub, hub): (0, ())}
    for cell in range(1 + arm * length, 1 + (arm + 1) * length):
        ahead = {}
        for (met, land), (total, row) in best.items():
            for after in range(len(values)):
                if after == land or not (met >> after) & 1:
                    key = (met | (1 << after), after)
                    keep_better(ahead, key, (total + values[after][cell], row + (after,)))
        best = ahead
    met_best = {}
    for key, told in best.items():
        keep_better(met_best, key[0], told)
    return met_best


def joined_best(hub, best, arm_best):
    """What is best on the hub and some arms together with one more arm, for each set of lands."""
    joined = {}
    for met, (total, row) in best.items():
        for arm_met, (arm_total, arm_row) in arm_best.items():
            # A land other than the hub's that were on two arms would not hang together.
            if met & arm_met == (1 << hub):
                keep_better(joined, met | arm_met, (total + arm_total, row + arm_row))
    return joined


def keep_better(best, key, told):
    """Puts a pair (worth, lands) under the key if no better one is there."""
    if key not in best or told > best[key]:
        best[key] = told


def shows_best_map(arms, length, values, value):
    """Whether the value is the greatest worth of a map of so many lands, and a map that has it."""
    return is_told_best(value, best_map(arms, length, values), values)


def climb(chart, values):
    """The row that comes of always making the best taking, the smallest of such, as long as the worth grows."""
    check_chart(chart)
    check_values(chart, values)
    table = touch_table(chart)
    cells = chart[1]
    row = []
    while len(row) < MOST_TAKINGS:
        taking = best_taking(table, cells, values)
        if taking is None:
            break
        row.append(taking)
        cells = made(cells, taking)
    return tuple(row)


def best_taking(table, cells, values):
    """The smallest of the takings by which the worth grows most, None if it grows by none."""
    best = None
    most = 0
    for land, cell in ready_takings(table, cells):
        gain = values[land][cell] - values[cells[cell]][cell]
        if gain > most:
            best = (land, cell)
            most = gain
    return best
