"""The hub: who holds it, and who ever can."""

from starlands.borders import orders
from starlands.checks import check_chart
from starlands.islands import arm_rows
from starlands.takings import takings


def hub_takings(chart):
    """The takings of the hub that can be made, ascending."""
    return tuple([taking for taking in takings(chart) if taking[1] == 0])


def is_frozen(chart):
    """Whether two arms or more wholly belong to the hub's land."""
    return bare_arms(chart) >= 2


def bare_arms(chart):
    """The number of arms that wholly belong to the hub's land."""
    return lands_on(chart).count(0)


def lands_on(chart):
    """The numbers of lands met on the arms, without the hub's."""
    return tuple([len(order) for order in orders(chart)])


def own_lands(chart):
    """The lands of the outermost cells of the arms, None for a frozen map."""
    check_chart(chart)
    if is_frozen(chart):
        return None
    return tuple([row[-1] for row in arm_rows(chart)])


def other_lands(chart):
    """The lands that are no arm's own, ascending, None for a frozen map."""
    own = own_lands(chart)
    if own is None:
        return None
    return tuple([land for land in range(max(chart[1]) + 1) if land not in own])


def ever_hub(chart):
    """The lands that hold the hub in some map that rows make of this one, ascending."""
    check_chart(chart)
    if is_frozen(chart):
        return (chart[1][0],)
    # Takings of other cells make way for every land to come to the hub.
    return tuple(range(max(chart[1]) + 1))
