"""What the document says, told once more the slow and plain way, without the package."""

from fractions import Fraction
from functools import lru_cache
from itertools import combinations, islice, permutations, product

ISLANDS = [(arms, length) for arms in (3, 4) for length in (1, 2, 3, 4)]
SIZES = [(arms, length, lands) for arms, length in ISLANDS for lands in range(2, length + 2)]
SMALL_SIZES = [size for size in SIZES if size[1] <= 2 or size[2] == 2] + [(3, 3, 3)]


@lru_cache(None)
def graph(arms, length):
    """For each cell the ascending list of those that touch it."""
    near = {cell: [] for cell in range(arms * length + 1)}
    for arm in range(arms):
        before = 0
        for step in range(length):
            cell = 1 + arm * length + step
            near[before].append(cell)
            near[cell].append(before)
            before = cell
    return {cell: sorted(places) for cell, places in near.items()}


def length_of(chart):
    return (len(chart[1]) - 1) // chart[0]


def graph_of(chart):
    return graph(chart[0], length_of(chart))


def hangs_together(near, cells, land):
    mine = [cell for cell, holder in enumerate(cells) if holder == land]
    if not mine:
        return False
    seen = {mine[0]}
    waiting = [mine[0]]
    while waiting:
        for cell in near[waiting.pop()]:
            if cells[cell] == land and cell not in seen:
                seen.add(cell)
                waiting.append(cell)
    return len(seen) == len(mine)


def is_int(value, low, high):
    return type(value) is int and low <= value <= high


def is_map(value):
    if type(value) is not tuple or len(value) != 2:
        return False
    arms, cells = value
    if not is_int(arms, 3, 4) or type(cells) is not tuple:
        return False
    lengths = [length for length in (1, 2, 3, 4) if arms * length + 1 == len(cells)]
    if not lengths or not all(type(land) is int and 0 <= land < 9 for land in cells):
        return False
    lands = len(set(cells))
    if set(cells) != set(range(lands)) or not 2 <= lands <= lengths[0] + 1:
        return False
    return all(hangs_together(graph(arms, lengths[0]), cells, land) for land in range(lands))


@lru_cache(None)
def all_maps(arms, length, lands):
    """All maps, ascending: the island is cut at some touching cells, and its pieces are given to the lands."""
    found = []
    near = graph(arms, length)
    for cut in combinations(range(1, arms * length + 1), lands - 1):
        piece = [0] * (arms * length + 1)
        for cell in range(1, arms * length + 1):
            piece[cell] = 1 + cut.index(cell) if cell in cut else piece[near[cell][0]]
        found.extend((arms, tuple(names[part] for part in piece)) for names in permutations(range(lands)))
    return tuple(sorted(found))


@lru_cache(None)
def some_maps(arms, length, lands, many=12):
    """Some maps from all over the list, frozen ones and others, where there are such."""
    maps = all_maps(arms, length, lands)
    picked = list(maps[::max(1, len(maps) // many)])
    for wanted in (True, False):
        picked.extend(islice((chart for chart in maps[7:] if frozen(chart) == wanted), 3))
    return tuple(picked)


def every_some_map(many=12):
    return [chart for size in SIZES for chart in some_maps(*size, many)]


def unlike_pairs():
    """Pairs of maps of unlike islands or with unlike numbers of lands; some of them have as many cells and lands."""
    maps = [all_maps(*size)[0] for size in SIZES]
    return [(one, other) for one in maps for other in maps if size_of(one) != size_of(other)]


def rows_of(chart):
    length = length_of(chart)
    return [chart[1][1 + arm * length:1 + (arm + 1) * length] for arm in range(chart[0])]


def frozen(chart):
    return sum(set(row) == {chart[1][0]} for row in rows_of(chart)) >= 2


def lands_of(chart):
    return max(chart[1]) + 1


def size_of(chart):
    return (chart[0], length_of(chart), lands_of(chart))


def behind(chart, taking):
    land, cell = taking
    cells = list(chart[1])
    cells[cell] = land
    return (chart[0], tuple(cells))


def can(chart, taking):
    land, cell = taking
    near = graph_of(chart)
    loser = chart[1][cell]
    if loser == land or not any(chart[1][place] == land for place in near[cell]):
        return False
    return hangs_together(near, behind(chart, taking)[1], loser)


@lru_cache(None)
def all_takings(chart):
    pairs = product(range(lands_of(chart)), range(len(chart[1])))
    return tuple(taking for taking in pairs if can(chart, taking))


def walk_by(chart, choose):
    """All maps that takings make of a map, with the least number of these, if `choose` tells which may be made."""
    steps = {chart: 0}
    waiting = [chart]
    for one in waiting:
        for taking in choose(one):
            other = behind(one, taking)
            if other not in steps:
                steps[other] = steps[one] + 1
                waiting.append(other)
    return steps


@lru_cache(None)
def walk(chart):
    """All maps that takings make of one, with the least number of takings."""
    return walk_by(chart, all_takings)


@lru_cache(None)
def ahead(chart):
    """All maps that one taking makes of a map."""
    return tuple(behind(chart, taking) for taking in all_takings(chart))


def least_prices(chart, prices):
    """The least prices to all maps of the class, by going over all takings until none makes a map cheaper."""
    least = {chart: 0}
    waiting = [chart]
    for one in waiting:
        for taking in all_takings(one):
            other = behind(one, taking)
            price = least[one] + prices[taking[0]]
            if price < least.get(other, price + 1):
                least[other] = price
                waiting.append(other)
    return least


@lru_cache(None)
def walk_turns(chart, most):
    """For each map and number of takings of the hub up to the most, the least number of takings with just so many."""
    steps = {(chart, 0): 0}
    waiting = [(chart, 0)]
    for one, turns in waiting:
        for taking in all_takings(one):
            state = (behind(one, taking), turns + (taking[1] == 0))
            if state[1] <= most and state not in steps:
                steps[state] = steps[one, turns] + 1
                waiting.append(state)
    return steps


def turn_pair(one, other, most=6):
    steps = walk_turns(one, most)
    pairs = [(turns, steps[other, turns]) for turns in range(most + 1) if (other, turns) in steps]
    return pairs[0] if pairs else None


def area_row(chart):
    return tuple(chart[1].count(land) for land in range(lands_of(chart)))


def ratio(value, bottom=1):
    """The pair of a number's top and bottom."""
    share = Fraction(value, bottom)
    return (share.numerator, share.denominator)


def cuts(chart):
    """The borders: the pairs of touching cells of unlike lands."""
    near = graph_of(chart)
    return sorted((a, b) for a in near for b in near[a] if a < b and chart[1][a] != chart[1][b])


def order_of(chart):
    """The orders of the arms and the places of their borders."""
    hub = chart[1][0]
    orders, places = [], []
    for row in rows_of(chart):
        lands = (hub,) + row
        steps = [k for k in range(len(row)) if lands[k] != lands[k + 1]]
        orders.append(tuple(row[k] for k in steps))
        places.append(tuple(steps))
    return tuple(orders), tuple(places)


def touching_pairs(chart):
    return sorted({tuple(sorted((chart[1][a], chart[1][b]))) for a, b in cuts(chart)})


def sum_worth(chart, values):
    return sum(values[chart[1][cell]][cell] for cell in range(len(chart[1])))


class Numbers:
    """Integers from all over a range, the same ones for the same seed."""

    def __init__(self, seed):
        self.state = seed

    def below(self, many):
        self.state = (self.state * 1103515245 + 12345) % 2147483648
        return (self.state >> 8) % many

    def pick(self, things):
        return things[self.below(len(things))]


def some_values(lands, cells, seed=1, most=100):
    """Values from all over the range, the same ones for the same seed."""
    numbers = Numbers(seed)
    return tuple(tuple(numbers.below(2 * most + 1) - most for _ in range(cells)) for _ in range(lands))


@lru_cache(None)
def kinds_of_classes(arms, length, lands):
    """The maps of one class that is not frozen, and of a frozen one for each way to part the lands among the arms."""
    found = {}
    for chart in all_maps(arms, length, lands):
        counts = None if not frozen(chart) else tuple(map(len, order_of(chart)[0]))
        if counts not in found:
            found[counts] = sorted(walk(chart))
    return list(found.values())


def greatest_class(arms, length, lands):
    return max(kinds_of_classes(arms, length, lands), key=len)


def classes_up_to(most):
    """Classes of at most so many maps of every island and number of lands."""
    return [maps for size in SIZES for maps in kinds_of_classes(*size) if len(maps) <= most]
