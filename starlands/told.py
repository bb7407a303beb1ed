"""Told cells: which maps there can be if the lands of some cells are told."""

from itertools import combinations, permutations

from starlands.checks import check_chart, check_island, check_told, inner_cell
from starlands.classes import steps_from
from starlands.counts import count_with
from starlands.errors import TooMany
from starlands.ratios import ratio

MOST_CELLS = 10


def fitting(arms, length, lands, told):
    """All maps of a small island in which the told cells belong to the told lands, ascending."""
    check_island(arms, length, lands)
    cells = arms * length + 1
    check_told(cells, lands, told)
    if cells > MOST_CELLS:
        raise TooMany(MOST_CELLS)
    return tuple(sorted([(arms, some) for some in all_cells(arms, length, lands) if fits(some, told)]))


def fits(cells, told):
    """Whether the told cells belong to the told lands."""
    return all([cells[cell] == land for cell, land in told])


def all_cells(arms, length, lands):
    """The cells of all maps: borders part the island into pieces, and the lands come upon these in any order."""
    found = []
    for starts in combinations(range(1, arms * length + 1), int(lands - 1)):
        pieces = [0]
        for cell in range(1, arms * length + 1):
            inner = pieces[inner_cell(length, cell)]
            pieces.append(starts.index(cell) + 1 if cell in starts else inner)
        for names in permutations(range(lands)):
            found.append(tuple([names[piece] for piece in pieces]))
    return found


def fit_count(arms, length, lands, told):
    """The number of all maps in which the told cells belong to the told lands."""
    return sum(hub_counts(arms, length, lands, told))


def told_chances(arms, length, lands, told):
    """The chances that 0, 1, .. hold the hub, all maps that fit as likely, None if none fits."""
    counts = hub_counts(arms, length, lands, told)
    total = sum(counts)
    if total == 0:
        return None
    return tuple([ratio(count, total) for count in counts])


def hub_counts(arms, length, lands, told):
    """For each land the number of all maps that fit in which it holds the hub."""
    check_island(arms, length, lands)
    check_told(arms * length + 1, lands, told)
    fixed = dict(told)
    hubs = [fixed[0]] if 0 in fixed else list(range(lands))

    def is_allowed(cell, _, land):
        return fixed.get(cell, land) == land
    return [count_with(arms, length, lands, hub, is_allowed) if hub in hubs else 0 for hub in range(lands)]


def sure_cells(arms, length, lands, told):
    """For each cell of a small island its land if all maps that fit agree on it, None otherwise."""
    maps = fitting(arms, length, lands, told)
    if not maps:
        return (None,) * (arms * length + 1)
    first = maps[0][1]
    agreed = [all([some[1][cell] == land for some in maps]) for cell, land in enumerate(first)]
    return tuple([land if sure else None for land, sure in zip(first, agreed)])


def class_fitting(chart, told):
    """The maps of the class in which the told cells belong to the told lands, ascending."""
    return tuple([(chart[0], cells) for cells in sorted(fitting_steps(chart, told))])


def nearest_fitting(chart, told):
    """The smallest of the nearest maps of the class that fit, None if there is none."""
    steps = fitting_steps(chart, told)
    if not steps:
        return None
    return (chart[0], min([(many, cells) for cells, many in steps.items()])[1])


def fitting_steps(chart, told):
    """For the cells of each map of the class that fits, its distance from the map."""
    check_chart(chart)
    check_told(len(chart[1]), max(chart[1]) + 1, told)
    return {cells: many for cells, many in steps_from(chart).items() if fits(cells, told)}
