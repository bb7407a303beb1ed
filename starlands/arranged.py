"""Arrangements: which land holds the hub, and in which orders the lands come along the arms."""

from math import comb, factorial

from starlands.borders import arrangement_of
from starlands.checks import GREAT_ARMS, check_arms, check_chart, check_lands, is_chart, is_pair, is_whole
from starlands.classes import check_one_class, class_maps, same_class, steps_from
from starlands.islands import touch_table
from starlands.takings import ready_takings
from starlands.turns import fewest_turns

MOST_LANDS = 12


def arrangements(chart):
    """The pairs of the hub's land and the orders, of all maps of the class, ascending, each once."""
    return tuple(sorted(set([arrangement_of(some) for some in class_maps(chart)])))


def arrangement_count(arms, lands):
    """The number of arrangements of a class that is not frozen, 0 if there is none; the arms are as long as needed."""
    check_arms_and_lands(arms, lands)
    others = lands - arms
    if others < 0:
        return 0
    # Either an own land holds the hub, and the others come in some order on the other arms, or one of the others
    # does, and the rest of them come on all arms.
    ways = arms * comb(others + arms - 2, arms - 2) + comb(others + arms - 2, arms - 1)
    return ways * factorial(others)


def all_arrangements(arms, lands):
    """The number of all arrangements; the arms are as long as needed."""
    check_arms_and_lands(arms, lands)
    return factorial(lands) * comb(lands + arms - 2, arms - 1)


def check_arms_and_lands(arms, lands):
    """BadArms or BadLands for what are no numbers of arms and lands, each of up to 12."""
    check_arms(arms, GREAT_ARMS)
    check_lands(MOST_LANDS - 1, lands)


def turns_between(one, other):
    """The least number of takings of the hub from a map with the one's arrangement to one with the other's."""
    check_one_class(one, other)
    # Takings of other cells make all maps with an arrangement of each other.
    return fewest_turns(one, other)


def degree_counts(chart):
    """The numbers of maps of the class with 0, 1, 2, .. takings that can be made."""
    degrees = list(degrees_of(chart).values())
    return tuple([degrees.count(many) for many in range(max(degrees) + 1)])


def degrees_of(chart):
    """For the cells of each map of the class the number of takings that can be made."""
    check_chart(chart)
    table = touch_table(chart)
    return {cells: len(ready_takings(table, cells)) for cells in steps_from(chart)}


def freest(chart):
    """The greatest number of takings that can be made in a map of the class, and a map with so many."""
    degrees = degrees_of(chart)
    most = max(degrees.values())
    return (most, (chart[0], min([cells for cells, many in degrees.items() if many == most])))


def shows_freest(chart, value):
    """Whether the value is the greatest such number and a map of the class with so many."""
    degrees = degrees_of(chart)
    if not is_pair(value) or not is_whole(value[0]) or value[0] != max(degrees.values()):
        return False
    return is_chart(value[1]) and same_class(chart, value[1]) and degrees[value[1][1]] == value[0]
