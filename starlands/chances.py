"""By chance: each taking that can be made is as likely."""

from starlands.checks import check_chart, check_count
from starlands.classes import check_one_class, check_size, steps_from
from starlands.islands import touch_table
from starlands.ratios import last_unknown, plus, ratio
from starlands.takings import made, ready_takings

MOST_AFTER = 6
MOST_MAPS = 30


def after_chances(chart, many):
    """The maps that may be there behind so many takings, ascending, with their chances."""
    check_chart(chart)
    check_count(many, 0, MOST_AFTER)
    return chances_behind(chart, many, made_choices)


def made_choices(table, cells):
    """The cells that may be there behind a taking, and how likely they are: all alike."""
    ready = ready_takings(table, cells)
    if not ready:
        return [(cells, 1)]
    return [(made(cells, taking), 1) for taking in ready]


def chances_behind(chart, many, choices):
    """The maps that may be there behind so many steps, ascending, with their chances.

    For the table of what touches what and the cells of a map, `choices` gives the pairs (cells, weight) of a step.
    """
    table = touch_table(chart)
    chances = {chart[1]: (1, 1)}
    for _ in range(many):
        ahead = {}
        for cells, (top, bottom) in chances.items():
            likely = choices(table, cells)
            total = sum([weight for _, weight in likely])
            for behind, weight in likely:
                share = ratio(top * weight, bottom * total)
                ahead[behind] = plus(ahead.get(behind, (0, 1)), share)
        chances = ahead
    return tuple([((chart[0], cells), chances[cells]) for cells in sorted(chances)])


def class_weights(chart):
    """For the cells of each map of the class its number of takings, 1 if there is no other map."""
    table = touch_table(chart)
    weights = {cells: len(ready_takings(table, cells)) for cells in steps_from(chart)}
    return weights if len(weights) > 1 else {chart[1]: 1}


def long_share(chart):
    """The share of time, in the long run, in which the map is there."""
    check_chart(chart)
    weights = class_weights(chart)
    return ratio(weights[chart[1]], sum(weights.values()))


def mean_back(chart):
    """The mean number of takings until the map is there again, 1 if the class has no other."""
    top, bottom = long_share(chart)
    return (bottom, top)


def hub_shares(chart):
    """The shares of time, in the long run, in which 0, 1, .. hold the hub."""
    check_chart(chart)
    weights = class_weights(chart)
    shares = [0] * (max(chart[1]) + 1)
    for cells, weight in weights.items():
        shares[cells[0]] += weight
    return tuple([ratio(share, sum(weights.values())) for share in shares])


def mean_areas(chart):
    """The mean areas of all lands in the long run."""
    check_chart(chart)
    weights = class_weights(chart)
    means = []
    for land in range(max(chart[1]) + 1):
        area_sum = sum([weight * cells.count(land) for cells, weight in weights.items()])
        means.append(ratio(area_sum, sum(weights.values())))
    return tuple(means)


def mean_first(one, other):
    """The mean number of takings until the second map is there for the first time, 0 if it is the first."""
    check_few(one, other)
    return mean_until(one, [other[1]], class_weights(one))


def check_few(one, other):
    """BadMap, NotOne or TooMany for what are not two maps of one class of at most 30 maps."""
    check_one_class(one, other)
    check_size(one, MOST_MAPS)


def mean_until(chart, goals, costs):
    """The mean number of steps until the cells are some of the goals for the first time, 0 if they are already.

    The costs tell, for the cells of each map, its number of takings times the mean number of steps up to a taking.
    """
    if chart[1] in goals:
        return (0, 1)
    table = touch_table(chart)
    # The unknowns are the means from all maps but the goals, where they are 0; the one that is asked for comes last.
    unknowns = [cells for cells in sorted(costs) if cells not in goals and cells != chart[1]] + [chart[1]]
    rows = []
    for cells in unknowns:
        ready = ready_takings(table, cells)
        ahead = [made(cells, taking) for taking in ready]
        row = [-ahead.count(unknown) for unknown in unknowns]
        row[unknowns.index(cells)] = len(ready)
        rows.append(row + [costs[cells]])
    return last_unknown(rows)
