"""Prices: what a taking costs the taker, and rows that cost least."""

from heapq import heappop, heappush

from starlands.checks import check_both, check_chart, check_prices, is_told_row, is_whole
from starlands.classes import check_one_class
from starlands.islands import touch_table
from starlands.takings import leads_to, made, ready_takings

MOST_PRICED = 2000


def cheap_row(one, other, prices):
    """The least price of takings that make the second map of the first, and such takings, None if none do."""
    check_both(one, other)
    check_prices(one, prices)
    return cheap_rows(one, prices).get(other[1])


def cheap_rows(chart, prices):
    """For the cells of each map of the class the pair (price, row) of a cheapest row, and of such a shortest one."""
    table = touch_table(chart)
    rows = {chart[1]: (0, ())}
    queue = [(0, 0, chart[1])]
    while queue:
        price, many, cells = heappop(queue)
        row = rows[cells][1]
        # A map may have been put in again with a better row; then this one is out of date.
        if (price, many) == (rows[cells][0], len(row)):
            for taking in ready_takings(table, cells):
                behind = made(cells, taking)
                dearer = price + prices[taking[0]]
                if behind not in rows or (dearer, many + 1) < (rows[behind][0], len(rows[behind][1])):
                    rows[behind] = (dearer, row + (taking,))
                    heappush(queue, (dearer, many + 1, behind))
    return rows


def shows_cheap_row(one, other, prices, value):
    """Whether the value is the least price and takings that cost it, or rightly None."""
    best = cheap_row(one, other, prices)
    if best is None:
        return value is None
    if not is_told_row(value, best[0], MOST_PRICED) or not leads_to(one, other, value[1]):
        return False
    return price_of(value[1], prices) == best[0]


def price_of(row, prices):
    """The sum of the prices of takings."""
    return sum([prices[land] for land, _ in row])


def cheapest_from(chart, prices):
    """The least prices from the map to all maps of its class, in their order."""
    check_chart(chart)
    check_prices(chart, prices)
    rows = cheap_rows(chart, prices)
    return tuple([rows[cells][0] for cells in sorted(rows)])


def shows_price_paper(one, other, prices, value):
    """Whether the value is numbers for all maps of the class which show that the second cannot be had for less."""
    check_both(one, other)
    check_one_class(one, other)
    check_prices(one, prices)
    rows = cheap_rows(one, prices)
    if not isinstance(value, tuple) or len(value) != len(rows) or not all(is_whole(number) for number in value):
        return False
    numbers = dict(zip(sorted(rows), value))
    if numbers[one[1]] != 0 or numbers[other[1]] != rows[other[1]][0]:
        return False
    return is_kept(touch_table(one), numbers, prices)


def is_kept(table, numbers, prices):
    """Whether no taking's price is less than the number behind it less the number before it."""
    for cells, number in numbers.items():
        for taking in ready_takings(table, cells):
            if prices[taking[0]] < numbers[made(cells, taking)] - number:
                return False
    return True
