"""The class as a whole: how its maps hang together, and how lands and arms change places."""

from itertools import permutations

from starlands.checks import check_chart, check_land
from starlands.classes import check_size, class_maps, same_class, steps_from
from starlands.errors import BadLand
from starlands.islands import touch_table
from starlands.names import renamed, turned
from starlands.ratios import ratio
from starlands.takings import made, ready_takings
from starlands.ways import distance

MOST_PAIRED = 120


def links(chart):
    """The number of pairs of maps of the class that are one taking apart."""
    check_chart(chart)
    table = touch_table(chart)
    # Each pair is met twice: the taking that takes one back makes the one map of the other.
    return sum([len(ready_takings(table, cells)) for cells in steps_from(chart)]) // 2


def shortest_round(chart):
    """The least number of unlike maps, this one among them, that one comes through on a round, None if there is none.

    Each map of a round, of 3 or more, is one taking apart from the next, and the last one from the first.
    """
    check_chart(chart)
    table = touch_table(chart)
    steps = steps_from(chart)
    first = first_ways(chart, steps)
    lengths = []
    for cells in first:
        for taking in ready_takings(table, cells):
            behind = made(cells, taking)
            # The ways that `first_ways` took to maps with unlike first takings have no map but this one in common.
            if behind in first and first[behind] != first[cells]:
                lengths.append(steps[cells] + steps[behind] + 1)
    return min(lengths, default=None)


def first_ways(chart, steps):
    """For the cells of each other map of the class, the number of the taking with which some shortest row begins."""
    table = touch_table(chart)
    ready = ready_takings(table, chart[1])
    first = {made(chart[1], taking): number for number, taking in enumerate(ready)}
    # The maps come with their steps ascending: what comes ahead of a map is known when its turn is.
    for cells in steps:
        for taking in ready_takings(table, cells):
            behind = made(cells, taking)
            if behind != chart[1] and behind not in first:
                first[behind] = first[cells]
    return first


def diameter(chart):
    """The greatest distance between two maps of the class."""
    return max([max(steps.values()) for steps in all_steps(chart)])


def centers(chart):
    """The maps of the class from which the farthest one is nearest, ascending."""
    far = [max(steps.values()) for steps in all_steps(chart)]
    return tuple([some for some, most in zip(class_maps(chart), far) if most == min(far)])


def mean_distance(chart):
    """The mean of the distances from a map of the class to another one or itself."""
    sums = [sum(steps.values()) for steps in all_steps(chart)]
    return ratio(sum(sums), len(sums) * len(sums))


def all_steps(chart):
    """For each map of a class that is not too great, ascending, what `steps_from` tells."""
    check_chart(chart)
    check_size(chart, MOST_PAIRED)
    return [steps_from(some) for some in class_maps(chart)]


def swap_takings(chart, one, other):
    """The least number of takings by which two lands change places, None if none do."""
    check_chart(chart)
    check_land(chart, one)
    check_land(chart, other)
    if one == other:
        raise BadLand("twice the same land")
    order = list(range(max(chart[1]) + 1))
    order[one] = other
    order[other] = one
    return distance(chart, renamed(chart, tuple(order)))


def turn_takings(chart, order):
    """The least number of takings by which the arms come to their new places, None if none do."""
    return distance(chart, turned(chart, order))


def names_to_come(chart):
    """The orders of the lands with which the map of the new names is of the class, ascending."""
    check_chart(chart)
    found = []
    for order in permutations(range(max(chart[1]) + 1)):
        if same_class(chart, renamed(chart, order)):
            found.append(order)
    return tuple(found)
