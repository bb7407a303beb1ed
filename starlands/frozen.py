"""Frozen maps, whose borders move on their arms alone, and numbers of maps of greater islands."""

from math import comb, factorial

from starlands.checks import check_chart, check_great_island, check_island
from starlands.classes import check_one_class, count_class, count_classes, count_maps, warm_choices
from starlands.errors import NotFrozen
from starlands.hubs import is_frozen
from starlands.islands import arm_rows
from starlands.ratios import ratio


def border_places(chart):
    """For each arm the places of its borders, ascending: a border stands ahead of the cell at its place."""
    check_chart(chart)
    return tuple([places_on(chart[1][0], row) for row in arm_rows(chart)])


def places_on(hub, row):
    """The places of an arm at which another land begins."""
    before = (hub,) + row
    return tuple([place for place, land in enumerate(row) if land != before[place]])


def frozen_distance(one, other):
    """The sum of the numbers of cells by which the borders move from a frozen map to another one of its class."""
    if not is_frozen(one):
        raise NotFrozen("not frozen")
    check_one_class(one, other)
    moves = []
    for here, there in zip(border_places(one), border_places(other)):
        moves.extend([abs(start - goal) for start, goal in zip(here, there)])
    return sum(moves)


def frozen_count(arms, length, lands):
    """The number of all frozen maps with so many lands."""
    check_island(arms, length, lands)
    return count_frozen(arms, length, lands)


def count_frozen(arms, length, lands):
    """As `frozen_count`, for what has been checked."""
    choices = comb(arms * length, lands - 1) - warm_choices(arms, length, lands - 1)
    return choices * factorial(lands)


def great_count(arms, length, lands):
    """The number of all maps, on islands of up to 12 arms of up to 30 cells."""
    check_great_island(arms, length, lands)
    return count_maps(arms, length, lands)


def great_frozen(arms, length, lands):
    """The number of all frozen maps of such an island."""
    check_great_island(arms, length, lands)
    return count_frozen(arms, length, lands)


def great_classes(arms, length, lands):
    """The numbers of classes of maps that are not frozen and of those that are, of such an island."""
    check_great_island(arms, length, lands)
    return count_classes(arms, lands)


def frozen_share(arms, length, lands):
    """The share of the frozen maps among all of such an island."""
    return ratio(great_frozen(arms, length, lands), count_maps(arms, length, lands))


def same_chance(arms, length, lands):
    """The chance that two maps of such an island, each drawn by itself, are of one class."""
    check_great_island(arms, length, lands)
    warm, _ = count_classes(arms, lands)
    size = count_class(arms, length, lands)
    pairs = warm * size * size + frozen_pairs(arms, length, lands)
    total = count_maps(arms, length, lands)
    return ratio(pairs, total * total)


def frozen_pairs(arms, length, lands):
    """The number of pairs of frozen maps of one class, a map with itself too."""
    pairs = 0
    # By numbers of borders: the pairs of ways to place them on so many arms, as many on each arm, with none bare.
    ways = [1] + [0] * (lands - 1)
    for used in range(1, arms - 1):
        ways = with_one_arm_more(length, ways)
        pairs += comb(arms, used) * ways[lands - 1]
    return pairs * factorial(lands)


def with_one_arm_more(length, ways):
    """The pairs of ways, by numbers of borders, with one arm more that is not bare."""
    longer = []
    for many in range(len(ways)):
        on_arm = [comb(length, more) * comb(length, more) * ways[many - more] for more in range(1, many + 1)]
        longer.append(sum(on_arm))
    return longer
