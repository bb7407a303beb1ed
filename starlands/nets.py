"""Nets: worths of maps less the prices of the takings that make them."""

from starlands.checks import check_chart, check_count, check_prices, check_values, is_told_row
from starlands.islands import touch_table
from starlands.prices import MOST_PRICED, cheap_rows, price_of
from starlands.takings import made, ready_takings, walked
from starlands.worths import keep_better, sum_of

MOST_STAYED = 5


def best_net(chart, values, prices):
    """The greatest worth of a map less the prices of the takings that make it, and such takings."""
    check_chart(chart)
    check_values(chart, values)
    check_prices(chart, prices)
    rows = cheap_rows(chart, prices)
    nets = [(sum_of(cells, values) - price, row) for cells, (price, row) in rows.items()]
    return max(nets, key=lambda pair: pair[0])


def shows_best_net(chart, values, prices, value):
    """Whether the value is the greatest net and takings that have it."""
    best = best_net(chart, values, prices)
    if not is_told_row(value, best[0], MOST_PRICED):
        return False
    steps = walked(chart, value[1])
    return len(steps) == len(value[1]) + 1 and sum_of(steps[-1], values) - price_of(value[1], prices) == best[0]


def best_stay(chart, values, prices, many):
    """The greatest sum, over at most so many takings, of the worth behind each less its price, and such a row."""
    check_chart(chart)
    check_values(chart, values)
    check_prices(chart, prices)
    check_count(many, 1, MOST_STAYED)
    table = touch_table(chart)
    best = (0, ())
    ends = {chart[1]: best}
    for _ in range(many):
        ahead = {}
        for cells, (total, row) in ends.items():
            for taking in ready_takings(table, cells):
                behind = made(cells, taking)
                gain = sum_of(behind, values) - prices[taking[0]]
                keep_better(ahead, behind, (total + gain, row + (taking,)))
        ends = ahead
        best = max([best] + list(ends.values()), key=lambda pair: pair[0])
    return best


def shows_best_stay(chart, values, prices, many, value):
    """Whether the value is the greatest such sum and a row of at most so many takings that has it."""
    best = best_stay(chart, values, prices, many)
    if not is_told_row(value, best[0], many):
        return False
    steps = walked(chart, value[1])
    if len(steps) <= len(value[1]):
        return False
    return sum([sum_of(cells, values) for cells in steps[1:]]) - price_of(value[1], prices) == best[0]
