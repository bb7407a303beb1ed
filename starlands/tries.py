"""Tries: takings of which those that can be made are made, and the others left out."""

from starlands.checks import check_chart, check_taking, check_tries
from starlands.islands import touch_table
from starlands.takings import can_make, made, walked


def tried(chart, tries):
    """The map behind all tries."""
    check_chart_and_tries(chart, tries)
    return (chart[0], try_all(touch_table(chart), chart[1], tries)[0])


def made_of(chart, tries):
    """The tries that are made."""
    check_chart_and_tries(chart, tries)
    return try_all(touch_table(chart), chart[1], tries)[1]


def check_chart_and_tries(chart, tries):
    """BadMap for what is no map, BadTries for what is no tries for it."""
    check_chart(chart)
    check_tries(max(chart[1]) + 1, len(chart[1]), tries)


def try_all(table, cells, tries):
    """The lands of all cells behind the tries, and the tries that are made."""
    row = []
    for taking in tries:
        if can_make(table, cells, taking):
            cells = made(cells, taking)
            row.append(taking)
    return (cells, tuple(row))


def tried_rest(chart, tries):
    """How often all tries are done before maps come again, and behind how many times more they do."""
    check_chart_and_tries(chart, tries)
    table = touch_table(chart)
    cells = chart[1]
    seen = {}
    while cells not in seen:
        seen[cells] = len(seen)
        cells, _ = try_all(table, cells, tries)
    return (seen[cells], len(seen) - seen[cells])


def order_free(chart, one, other):
    """Whether two takings can be made one after the other in either order, with one end."""
    check_chart(chart)
    check_taking(chart, one)
    check_taking(chart, other)
    first = walked(chart, (one, other))
    second = walked(chart, (other, one))
    return len(first) == len(second) == 3 and first[-1] == second[-1]
