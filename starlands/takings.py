"""Takings: a land takes a cell of a neighbor land."""

from starlands.checks import check_chart, check_taking, is_taking
from starlands.errors import BadRow, NotMade
from starlands.islands import touch_table

MOST_TAKINGS = 40


def can_take(chart, taking):
    """Whether the taking can be made."""
    check_chart(chart)
    check_taking(chart, taking)
    return can_make(touch_table(chart), chart[1], taking)


def can_make(table, cells, taking):
    """As `can_take`, for what has been checked; the table is that of `touch_table`."""
    land, cell = taking
    loser = cells[cell]
    near = [cells[place] for place in table[cell]]
    return land != loser and land in near and can_lose(loser, near)


def can_lose(loser, near):
    """Whether a land can lose a cell, by the lands of the cells that touch it."""
    # An island has no rounds: with none of its own cells beside it the land would be gone, with two in pieces.
    return near.count(loser) == 1


def takings(chart):
    """All takings that can be made, ascending."""
    check_chart(chart)
    return tuple(ready_takings(touch_table(chart), chart[1]))


def ready_takings(table, cells):
    """As `takings`, for what has been checked, as a list."""
    ready = []
    for cell, places in enumerate(table):
        near = [cells[place] for place in places]
        loser = cells[cell]
        if can_lose(loser, near):
            ready.extend([(land, cell) for land in near if land != loser])
    return sorted(ready)


def made(cells, taking):
    """The lands of all cells behind a taking."""
    land, cell = taking
    return cells[:cell] + (land,) + cells[cell + 1:]


def done(chart, row):
    """The map behind a row."""
    return traced(chart, row)[-1]


def traced(chart, row):
    """The maps at first and behind each taking of a row."""
    check_chart(chart)
    if not isinstance(row, tuple) or len(row) > MOST_TAKINGS:
        raise BadRow(None)
    steps = walked(chart, row)
    if len(steps) <= len(row):
        raise BadRow(len(steps) - 1)
    return tuple([(chart[0], cells) for cells in steps])


def walked(chart, row):
    """The lands of all cells at first and behind each taking, up to the first that is none or cannot be made."""
    table = touch_table(chart)
    steps = [chart[1]]
    for taking in row:
        if not is_taking(chart, taking) or not can_make(table, steps[-1], taking):
            break
        steps.append(made(steps[-1], taking))
    return steps


def leads_to(one, other, row):
    """Whether all takings of a tuple can be made, one after another, and make the second map of the first."""
    steps = walked(one, row)
    return len(steps) == len(row) + 1 and steps[-1] == other[1]


def taken_back(chart, taking):
    """The taking that takes one back."""
    check_chart(chart)
    check_taking(chart, taking)
    if not can_make(touch_table(chart), chart[1], taking):
        raise NotMade("the taking cannot be made")
    return (chart[1][taking[1]], taking[1])
