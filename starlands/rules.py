"""Rules: only lands that are named take of lands that are named."""

from starlands.checks import check_both, check_chart, check_rule
from starlands.islands import touch_table
from starlands.takings import made, ready_takings


def ruled(chart, rule):
    """The takings that can be made by the rule, ascending."""
    check_chart(chart)
    check_rule(chart, rule)
    return tuple(ruled_takings(touch_table(chart), chart[1], rule))


def ruled_takings(table, cells, rule):
    """As `ruled`, for what has been checked, as a list."""
    return [(land, cell) for land, cell in ready_takings(table, cells) if (land, cells[cell]) in rule]


def rule_row(one, other, rule):
    """The smallest of the shortest rows by the rule that make the second map of the first, None if there is none."""
    check_both(one, other)
    check_rule(one, rule)
    return rows_from(one, rule).get(other[1])


def rule_distance(one, other, rule):
    """The least number of takings by the rule that make the second map of the first, None if none do."""
    row = rule_row(one, other, rule)
    return None if row is None else len(row)


def rule_maps(chart, rule):
    """All maps that rows by the rule make of a map, ascending."""
    check_chart(chart)
    check_rule(chart, rule)
    return tuple([(chart[0], cells) for cells in sorted(rows_from(chart, rule))])


def rows_from(chart, rule):
    """For the cells of each map that rows by the rule make of a map, the smallest of the shortest such rows."""
    table = touch_table(chart)
    rows = {chart[1]: ()}
    layer = [chart[1]]
    while layer:
        ahead = []
        # Each layer is in the order of its rows, and so are the takings: the first row that comes is the smallest.
        for cells in layer:
            for taking in ruled_takings(table, cells, rule):
                behind = made(cells, taking)
                if behind not in rows:
                    rows[behind] = rows[cells] + (taking,)
                    ahead.append(behind)
        layer = ahead
    return rows
