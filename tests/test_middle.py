import unittest
from itertools import permutations

from starlands.errors import BadMap, BadMaps, NotOne
from starlands.middle import between, middle_maps, shortest_count, sum_of_ways, tour
from starlands.ways import way_count
from tests import plain, wrong

CHART = (3, (0, 0, 0, 0, 0, 0, 1))
THERE = (3, (0, 0, 0, 0, 0, 1, 1))
WARM = (3, (0, 0, 0, 0, 1, 2, 2))
FULL = (3, (0, 0, 0, 1, 1, 2, 2))
ALONE = (3, (0, 0, 0, 1))
OTHERS = ((3, (0, 0, 0, 0, 0, 1, 2)), (3, (1, 1, 1, 1, 0, 2, 2)), (3, (0, 0, 0, 2, 2, 1, 1)))


def shortest_rows(one, other):
    """The maps at first and behind each taking of all shortest rows."""
    left = plain.walk(other)[one]
    if left == 0:
        return [(one,)]
    nearer = [near for near in plain.ahead(one) if plain.walk(other)[near] == left - 1]
    return [(one,) + rest for near in nearer for rest in shortest_rows(near, other)]


def ways_by_steps(one, other):
    """The number of shortest rows, by going back from the goal."""
    ways = {one: 1}
    for step in range(1, plain.walk(one)[other] + 1):
        layer = [chart for chart, steps in plain.walk(one).items() if steps == step]
        ways = {chart: sum(ways.get(near, 0) for near in plain.ahead(chart)) for chart in layer}
    return ways[other]


def tour_by_states(one, some):
    """The least number of takings of a row that comes through all of the maps, by walking maps with what is left."""
    def without(chart, left):
        return frozenset(left) - {chart}
    start = (one, without(one, some))
    steps = {start: 0}
    waiting = [start]
    for state in waiting:
        chart, left = state
        if not left:
            return steps[state]
        for near in plain.ahead(chart):
            after = (near, without(near, left))
            if after not in steps:
                steps[after] = steps[state] + 1
                waiting.append(after)
    return None


def length_in_order(one, some, order):
    total = 0
    for at in order:
        total += plain.walk(one)[some[at]]
        one = some[at]
    return total


def first_order(one, some):
    """The first of the orders, ascending, in which the shortest rows from one map to the next are shortest."""
    orders = sorted(permutations(range(len(some))))
    lengths = [length_in_order(one, some, order) for order in orders]
    return (min(lengths), orders[lengths.index(min(lengths))])


def some_of(maps, many, seed):
    numbers = plain.Numbers(seed)
    return tuple(numbers.pick(maps) for _ in range(many))


def middles(some):
    sums = {chart: sum(plain.walk(one)[chart] for one in some) for chart in plain.walk(some[0])}
    return tuple(sorted(chart for chart in sums if sums[chart] == min(sums.values())))


class MiddleTest(unittest.TestCase):
    def test_document(self):
        got = [
            between(CHART, THERE) == (CHART, THERE), shortest_count(CHART, THERE), middle_maps((CHART,)) == (CHART,),
            sum_of_ways((CHART, THERE)), tour(CHART, (THERE, CHART)),
        ]
        self.assertEqual(got, [True, 1, True, 1, (1, (1, 0))])

    def check_rows(self, one, other):
        rows = shortest_rows(one, other)
        self.assertEqual(between(one, other), tuple(sorted({chart for row in rows for chart in row})))
        self.assertEqual(shortest_count(one, other), len(rows))

    def test_all_shortest_rows_of_small_classes(self):
        for maps in plain.classes_up_to(30):
            for one in maps[::4] + maps[-1:]:
                for other in maps[::3] + maps[-1:]:
                    self.check_rows(one, other)

    def test_all_pairs_of_a_class(self):
        for one in plain.walk(FULL):
            for other in plain.walk(FULL):
                self.check_rows(one, other)
                self.assertEqual(between(one, other), between(other, one))
                self.assertEqual(shortest_count(one, other), shortest_count(other, one))

    def test_rows_of_greater_classes(self):
        greatest = 0
        for size in plain.SIZES:
            for maps in plain.kinds_of_classes(*size):
                if len(maps) > 30:
                    for one, other in ((maps[0], maps[-1]), (maps[len(maps) // 3], maps[len(maps) // 2])):
                        steps = plain.walk(one)[other]
                        on_way = [some for some in maps if plain.walk(one)[some] + plain.walk(other)[some] == steps]
                        self.assertEqual(between(one, other), tuple(on_way))
                        self.assertEqual(shortest_count(one, other), ways_by_steps(one, other))
                        greatest = max(greatest, shortest_count(one, other))
        self.assertGreater(greatest, 100)

    def test_count_of_rows_of_so_many_takings(self):
        for chart in plain.every_some_map(1):
            for other, steps in list(plain.walk(chart).items())[:200:17]:
                if steps <= 8:
                    self.assertEqual(shortest_count(chart, other), way_count(chart, other, steps))

    def test_one_and_the_same_map_twice(self):
        for chart in plain.every_some_map(1) + [ALONE]:
            self.assertEqual((between(chart, chart), shortest_count(chart, chart)), ((chart,), 1))

    def test_unlike_classes_and_islands(self):
        for function in (between, shortest_count):
            for other in OTHERS:
                self.assertRaises(NotOne, function, WARM, other)
                self.assertRaises(NotOne, function, other, WARM)
            for one, other in plain.unlike_pairs():
                self.assertRaises(NotOne, function, one, other)

    def test_middle_maps(self):
        for at, maps in enumerate(plain.classes_up_to(120)):
            for many in range(1, 6):
                some = some_of(maps, many, 7 * at + many)
                self.assertEqual(middle_maps(some), middles(some))
                self.assertEqual(sum_of_ways(some), sum(plain.walk(one)[middles(some)[0]] for one in some))

    def test_middle_maps_of_greater_classes(self):
        for size in ((3, 4, 4), (4, 4, 4), (3, 4, 5), (4, 4, 5)):
            some = some_of(plain.greatest_class(*size), 3, size[2])
            self.assertEqual(middle_maps(some), middles(some))

    def test_middle_of_two_maps_is_between_them(self):
        for maps in plain.classes_up_to(48):
            for one, other in zip(maps[::5], maps[::-3]):
                self.assertEqual(middle_maps((one, other)), between(one, other))
                self.assertEqual(sum_of_ways((one, other)), plain.walk(one)[other])

    def test_the_same_map_several_times(self):
        for chart in (WARM, CHART, ALONE):
            for many in range(1, 6):
                self.assertEqual((middle_maps((chart,) * many), sum_of_ways((chart,) * many)), ((chart,), 0))
                self.assertEqual(tour(chart, (chart,) * many), (0, tuple(range(many))))
        self.assertEqual(middle_maps((WARM, FULL, WARM)), (WARM,))
        self.assertEqual(sum_of_ways((WARM, FULL, WARM)), 1)
        self.assertEqual(tour(CHART, (THERE, CHART, THERE, CHART, THERE)), (1, (1, 3, 0, 2, 4)))
        self.assertEqual(tour(THERE, (CHART, THERE, CHART, THERE, CHART)), (1, (1, 3, 0, 2, 4)))

    def test_tours(self):
        for at, maps in enumerate(plain.classes_up_to(120)):
            for many in range(1, 6):
                one, *rest = some_of(maps, many + 1, 11 * at + many)
                some = tuple(rest)
                self.assertEqual(tour(one, some), first_order(one, some))
                if len(maps) <= 48:
                    self.assertEqual(tour(one, some)[0], tour_by_states(one, some))

    def test_the_smallest_order(self):
        seen = 0
        for one in plain.walk(FULL):
            for some in permutations(sorted(plain.walk(FULL))[::3], 3):
                takings, order = tour(one, some)
                orders = [other for other in permutations(range(3)) if length_in_order(one, some, other) == takings]
                self.assertEqual(order, min(orders))
                seen += len(orders) > 1
        self.assertGreater(seen, 50)

    def test_tours_of_many_takings(self):
        far = 0
        for size in ((3, 4, 5), (4, 4, 5), (3, 4, 4)):
            maps = plain.greatest_class(*size)
            one, *rest = [maps[len(maps) * at // 6] for at in range(6)]
            some = tuple(rest)
            self.assertEqual(tour(one, some), first_order(one, some))
            far = max(far, tour(one, some)[0])
        self.assertGreater(far, 40)

    def test_maps_that_are_not_of_the_class(self):
        for other in OTHERS + tuple(two for one, two in plain.unlike_pairs() if one == plain.all_maps(3, 2, 3)[0]):
            for some, index in (((WARM, other), 1), ((WARM, FULL, other, other), 2), ((WARM,) * 4 + (other,), 4)):
                for function in (middle_maps, sum_of_ways):
                    self.check_index(index, function, some)
                self.check_index(index, tour, FULL, some)
            for function in (middle_maps, sum_of_ways):
                self.check_index(1, function, (other, WARM))
            self.check_index(0, tour, WARM, (other,))
            self.check_index(0, tour, other, (WARM, other))

    def check_index(self, index, function, *args):
        with self.assertRaises(BadMaps) as caught:
            function(*args)
        self.assertEqual(caught.exception.index, index)

    def test_how_many_maps(self):
        for some in ((), (WARM,) * 6, (None,) * 6, [WARM], None, WARM[0], "", {}):
            for function in (middle_maps, sum_of_ways):
                self.check_index(None, function, some)
            self.check_index(None, tour, WARM, some)
            self.assertRaises(BadMap, tour, None, some)

    def test_wrong_inputs(self):
        for function in (between, shortest_count):
            wrong.check_wrong(self, function, wrong.chart(), wrong.class_chart(wrong.MAP, FULL))
        for function in (middle_maps, sum_of_ways):
            wrong.check_wrong(self, function, wrong.maps((wrong.MAP, FULL)))
        wrong.check_wrong(self, tour, wrong.chart(), wrong.maps((FULL, wrong.MAP), wrong.MAP))


if __name__ == "__main__":
    unittest.main()
