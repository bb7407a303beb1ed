"""Two hands make takings by turns; a hand that can make none passes."""

from starlands.checks import check_chart, check_count, check_land
from starlands.islands import touch_table
from starlands.takings import made, ready_takings

MOST_HELD = 6
MOST_PLAYED = 4


def can_hold(chart, land, many):
    """Whether the first hand can make the land hold the hub behind at most so many turns."""
    check_chart(chart)
    check_land(chart, land)
    check_count(many, 0, MOST_HELD)
    return is_held(touch_table(chart), {}, land, (chart[1], 0, many))


def least_hold(chart, land):
    """The least number of turns, up to 6, behind which the first hand can make the land hold the hub, or None."""
    check_chart(chart)
    check_land(chart, land)
    table = touch_table(chart)
    known = {}
    for many in range(MOST_HELD + 1):
        if is_held(table, known, land, (chart[1], 0, many)):
            return many
    return None


def hold_takings(chart, land, many):
    """The takings with which the first hand can begin so that the land holds the hub behind so many turns."""
    check_chart(chart)
    check_land(chart, land)
    check_count(many, 1, MOST_HELD)
    table = touch_table(chart)
    ready = ready_takings(table, chart[1])
    if chart[1][0] == land:
        return tuple(ready)
    known = {}
    held = [is_held(table, known, land, (made(chart[1], taking), 1, many - 1)) for taking in ready]
    return tuple([taking for taking, is_so in zip(ready, held) if is_so])


def is_held(table, known, land, state):
    """Whether the first hand can make the land hold the hub from a state (cells, hand, turns that are left).

    The hand whose turn it is, 0 or 1, is the first or the second. What comes out is kept in `known`.
    """
    cells, hand, left = state
    if cells[0] == land:
        return True
    if left == 0:
        return False
    if state not in known:
        held = [is_held(table, known, land, (behind, 1 - hand, left - 1)) for behind in choices_of(table, cells)]
        known[state] = any(held) if hand == 0 else all(held)
    return known[state]


def choices_of(table, cells):
    """What a hand can make of the cells of a map: they stay if it must pass."""
    ready = ready_takings(table, cells)
    return [made(cells, taking) for taking in ready] if ready else [cells]


def area_play(chart, land, many):
    """The land's area behind so many turns if the first hand wants it great and the second one small."""
    check_chart(chart)
    check_land(chart, land)
    check_count(many, 0, MOST_PLAYED)
    return area_behind(touch_table(chart), {}, land, (chart[1], 0, many))


def area_behind(table, known, land, state):
    """As `area_play`, from a state as in `is_held`."""
    cells, hand, left = state
    if left == 0:
        return cells.count(land)
    if state not in known:
        sizes = [area_behind(table, known, land, (behind, 1 - hand, left - 1)) for behind in choices_of(table, cells)]
        known[state] = max(sizes) if hand == 0 else min(sizes)
    return known[state]
