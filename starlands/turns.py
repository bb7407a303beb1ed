"""Turns: how often the hub must change hands."""

from heapq import heappop, heappush

from starlands.checks import check_both, check_chart
from starlands.islands import touch_table
from starlands.takings import made, ready_takings


def fewest_turns(one, other):
    """The least number of takings of the hub on a row that makes the second map of the first, None if none does."""
    pair = turn_row(one, other)
    return None if pair is None else pair[0]


def turn_row(one, other):
    """The least number of takings of the hub, and of all takings with so few of them, None if no row does."""
    check_both(one, other)
    return turns_from(one).get(other[1])


def turn_counts(chart):
    """The numbers of maps of the class by their fewest turns from this one: 0, 1, 2, .."""
    check_chart(chart)
    turns = [pair[0] for pair in turns_from(chart).values()]
    return tuple([turns.count(many) for many in range(max(turns) + 1)])


def turns_from(chart):
    """For the cells of each map of the class, the least pair (takings of the hub, takings) from this one."""
    table = touch_table(chart)
    least = {chart[1]: (0, 0)}
    queue = [((0, 0), chart[1])]
    while queue:
        pair, cells = heappop(queue)
        # A map may have been put in again with a lesser pair; then this one is out of date.
        if pair == least[cells]:
            for taking in ready_takings(table, cells):
                behind = made(cells, taking)
                longer = (pair[0] + int(taking[1] == 0), pair[1] + 1)
                if behind not in least or longer < least[behind]:
                    least[behind] = longer
                    heappush(queue, (longer, behind))
    return least
