"""Classes: the maps that takings make of one another."""

from math import comb, factorial, perm

from starlands.borders import orders
from starlands.checks import check_chart, check_great_island, check_island, is_like
from starlands.errors import NotOne, TooMany
from starlands.hubs import is_frozen, own_lands
from starlands.islands import touch_table
from starlands.takings import made, ready_takings


def same_class(one, other):
    """Whether rows make one map of the other."""
    check_chart(one)
    check_chart(other)
    if not is_like(one, other):
        return False
    if is_frozen(one):
        # The same orders leave the same arms bare: the other one is frozen, too.
        return one[1][0] == other[1][0] and orders(one) == orders(other)
    return own_lands(one) == own_lands(other)


def check_one_class(one, other):
    """BadMap for what is no map, NotOne for two maps that are not of one class, those of unlike islands, too."""
    if not same_class(one, other):
        raise NotOne("not of one class")


def steps_from(chart):
    """For the cells of each map of the class, the least number of takings that make it of this one."""
    return steps_by(chart, ready_takings)


def steps_by(chart, choices):
    """For the cells of each map that chosen takings make of a map, the least number of them; nearer maps come first.

    For the table of what touches what and the cells of a map, `choices` gives the takings that may be made.
    """
    table = touch_table(chart)
    steps = {chart[1]: 0}
    layer = [chart[1]]
    while layer:
        ahead = []
        for cells in layer:
            for taking in choices(table, cells):
                behind = made(cells, taking)
                if behind not in steps:
                    steps[behind] = steps[cells] + 1
                    ahead.append(behind)
        layer = ahead
    return steps


def class_maps(chart):
    """All maps of the class, ascending."""
    check_chart(chart)
    return tuple([(chart[0], cells) for cells in sorted(steps_from(chart))])


def class_size(chart):
    """The number of maps of the class."""
    check_chart(chart)
    return len(steps_from(chart))


def check_size(chart, most):
    """TooMany for a map of a class of more maps than the most."""
    if class_size(chart) > most:
        raise TooMany(most)


def map_count(arms, length, lands):
    """The number of all maps with so many lands."""
    check_island(arms, length, lands)
    return count_maps(arms, length, lands)


def count_maps(arms, length, lands):
    """As `map_count`, for what has been checked."""
    return comb(arms * length, lands - 1) * factorial(lands)


def class_counts(arms, length, lands):
    """The numbers of classes of maps that are not frozen and of those that are."""
    check_island(arms, length, lands)
    return count_classes(arms, lands)


def count_classes(arms, lands):
    """As `class_counts`, for what has been checked."""
    return (perm(lands, arms), order_choices(arms, lands) * factorial(lands))


def order_choices(arms, lands):
    """The number of ways to part the borders among the arms with two bare arms or more."""
    return sum([comb(arms, used) * comb(lands - 2, used - 1) for used in range(1, arms - 1)])


def great_class(arms, length, lands):
    """The number of maps of a class that is not frozen, on islands of up to 12 arms of up to 30 cells."""
    check_great_island(arms, length, lands)
    return count_class(arms, length, lands)


def count_class(arms, length, lands):
    """As `great_class`, for what has been checked."""
    if lands < arms:
        return 0
    return warm_choices(arms, length, lands - 1) * factorial(lands - arms)


def warm_choices(arms, length, many):
    """The number of ways to place so many borders on the arms with at most one of these bare."""
    return border_choices(arms, length, many) + arms * border_choices(arms - 1, length, many)


def border_choices(arms, length, many):
    """The number of ways to place so many borders on the arms with none of these bare."""
    total = 0
    for bare in range(arms + 1):
        choices = comb(arms, bare) * comb((arms - bare) * length, many)
        # Choices with some bare arms are counted once for each of them: take away and give back by turns.
        total += -choices if bare % 2 else choices
    return total


def first_map(arms, length, lands):
    """The smallest of all maps with so many lands."""
    check_island(arms, length, lands)
    return (arms, (0,) * (arms * length + 2 - lands) + tuple(range(1, lands)))
