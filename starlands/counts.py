"""Numbers of maps, counted by the sets of lands on the arms instead of map by map.

A set of lands is an integer with a bit for each of them.
"""


def count_with(arms, length, lands, hub, is_allowed):
    """The number of maps with this land at the hub and allowed lands on the arms.

    `is_allowed` tells, for a cell, the land of the cell before it on the way outward and a land, whether the cell
    may belong to that land.
    """
    counts = {1 << hub: 1}
    for arm in range(arms):
        ahead = {}
        for arm_met, rows in rows_by_lands(length, lands, hub, is_allowed, arm).items():
            for met, many in counts.items():
                # A land other than the hub's that were on two arms would not hang together.
                if met & arm_met == 1 << hub:
                    ahead[met | arm_met] = ahead.get(met | arm_met, 0) + many * rows
        counts = ahead
    return counts.get((1 << lands) - 1, 0)


def rows_by_lands(length, lands, hub, is_allowed, arm):
    """For each set of lands, the hub's too, how many allowed rows of lands on the arm have just these."""
    counts = {(1 << hub, hub): 1}
    for cell in range(1 + arm * length, 1 + (arm + 1) * length):
        ahead = {}
        for (met, last), many in counts.items():
            for land in range(lands):
                if is_allowed(cell, last, land) and (land == last or not (met >> land) & 1):
                    key = (met | (1 << land), land)
                    ahead[key] = ahead.get(key, 0) + many
        counts = ahead
    sums = {}
    for (met, _), many in counts.items():
        sums[met] = sums.get(met, 0) + many
    return sums
