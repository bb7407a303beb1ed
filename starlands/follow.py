"""Who follows whom at the hub, and how soon."""

from heapq import heapify, heappop, heappush

from starlands.borders import arrangement_of
from starlands.chances import MOST_MAPS, class_weights, mean_until
from starlands.checks import check_chart, check_count, check_followers, check_land
from starlands.classes import check_size, class_maps, steps_from
from starlands.errors import NotOne
from starlands.hubs import ever_hub
from starlands.islands import touch_table
from starlands.takings import can_make, made, ready_takings

MOST_COUNTED = 6
MOST_WITHIN = 60


def can_follow(chart, lands):
    """Whether there is a row in which the hub is held by just these lands, one after another."""
    return follow_row(chart, lands) is not None


def follow_row(chart, lands):
    """The least number of takings of such a row, None if there is none."""
    check_chart(chart)
    check_followers(chart, lands)
    if lands[0] != chart[1][0]:
        return None
    table = touch_table(chart)
    steps = with_hub_kept(table, {chart[1]: 0})
    for land in lands[1:]:
        steps = with_hub_kept(table, with_hub_taken(table, steps, land))
    return min(steps.values(), default=None)


def with_hub_kept(table, starts):
    """For the cells of each map that takings of other cells than the hub make, the least number of takings.

    The starts tell by how many takings the cells came about of which these are made.
    """
    steps = {}
    queue = [(many, cells) for cells, many in starts.items()]
    heapify(queue)
    while queue:
        many, cells = heappop(queue)
        if cells not in steps:
            steps[cells] = many
            for taking in ready_takings(table, cells):
                if taking[1] != 0:
                    heappush(queue, (many + 1, made(cells, taking)))
    return steps


def with_hub_taken(table, steps, land):
    """For the cells of each map that one taking of the hub by the land makes, the least number of takings."""
    taken = {}
    for cells, many in steps.items():
        if can_make(table, cells, (land, 0)):
            taken[made(cells, (land, 0))] = many + 1
    return taken


def follow_count(chart, many):
    """The number of tuples of so many lands that can follow."""
    check_chart(chart)
    check_count(many, 1, MOST_COUNTED)
    ahead = arrangements_ahead(chart)
    # By the arrangements that may be there behind some tuples, all these with the same hub land: how many tuples.
    tuples = {(arrangement_of(chart),): 1}
    for _ in range(many - 1):
        longer = {}
        for places, count in tuples.items():
            for hub in range(max(chart[1]) + 1):
                found = [there for here in places for there in ahead[here] if there[0] == hub]
                if found:
                    key = tuple(sorted(set(found)))
                    longer[key] = longer.get(key, 0) + count
        tuples = longer
    return sum(tuples.values())


def arrangements_ahead(chart):
    """For each arrangement of the class, those that one taking of the hub makes of maps with it.

    Takings of other cells make all maps with an arrangement of each other.
    """
    table = touch_table(chart)
    ahead = {}
    for some in class_maps(chart):
        found = ahead.setdefault(arrangement_of(some), [])
        for taking in ready_takings(table, some[1]):
            if taking[1] == 0:
                found.append(arrangement_of((chart[0], made(some[1], taking))))
    return ahead


def next_hubs(chart):
    """The lands that can hold the hub next, ascending."""
    check_chart(chart)
    table = touch_table(chart)
    steps = with_hub_kept(table, {chart[1]: 0})
    return tuple([land for land in range(max(chart[1]) + 1) if with_hub_taken(table, steps, land)])


def hub_distances(chart):
    """For each land the least number of takings behind which it holds the hub, None if it never can."""
    check_chart(chart)
    steps = steps_from(chart)
    distances = []
    for land in range(max(chart[1]) + 1):
        distances.append(min([many for cells, many in steps.items() if cells[0] == land], default=None))
    return tuple(distances)


def hub_within(chart, many):
    """The lands that at most so many takings can make hold the hub, ascending."""
    check_chart(chart)
    check_count(many, 0, MOST_WITHIN)
    distances = hub_distances(chart)
    return tuple([land for land, least in enumerate(distances) if least is not None and least <= many])


def mean_hub(chart, land):
    """The mean number of takings, each that can be made as likely, until the land holds the hub."""
    check_chart(chart)
    check_land(chart, land)
    if land not in ever_hub(chart):
        raise NotOne("a land that never can hold the hub")
    check_size(chart, MOST_MAPS)
    weights = class_weights(chart)
    return mean_until(chart, [cells for cells in weights if cells[0] == land], weights)
