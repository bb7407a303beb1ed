import unittest
from itertools import permutations

from starlands.classes import class_size
from starlands.errors import BadLand, BadMap, BadOrders, TooMany
from starlands.names import renamed, turned
from starlands.ways import farthest
from starlands.whole import (
    centers, diameter, links, mean_distance, names_to_come, shortest_round, swap_takings, turn_takings,
)
from tests import plain, wrong

CHART = (3, (0, 0, 0, 0, 0, 0, 1))
WARM = (3, (0, 0, 0, 0, 1, 2, 2))
FULL = (3, (0, 0, 0, 1, 1, 2, 2))
ALONE = (3, (0, 0, 0, 1))


def rounds_through(chart, many):
    """Whether some row of so many unlike maps, beginning with this one, closes to a round."""
    def goes_on(row):
        if len(row) == many:
            return chart in plain.ahead(row[-1])
        return any(goes_on(row + [near]) for near in plain.ahead(row[-1]) if near not in row)
    return goes_on([chart])


def round_by_going_back(chart):
    """The shortest round: from a map one taking apart back, but not by the taking that takes that one back."""
    lengths = []
    for first in plain.ahead(chart):
        steps = {first: 0}
        waiting = [first]
        for one in waiting:
            for other in plain.ahead(one):
                if other not in steps and (one, other) != (first, chart):
                    steps[other] = steps[one] + 1
                    waiting.append(other)
        if chart in steps:
            lengths.append(steps[chart] + 1)
    return min(lengths, default=None)


def swapped(chart, one, other):
    names = {one: other, other: one}
    return (chart[0], tuple(names.get(land, land) for land in chart[1]))


def with_arms(chart, order):
    """The map in which each arm has come to the place that the order tells."""
    rows = plain.rows_of(chart)
    cells = list(chart[1][:1])
    for place in range(chart[0]):
        for arm in range(chart[0]):
            if order[arm] == place:
                cells.extend(rows[arm])
    return (chart[0], tuple(cells))


class WholeTest(unittest.TestCase):
    def test_document(self):
        got = [
            links(CHART), shortest_round(CHART), shortest_round(FULL), diameter(CHART), len(centers(CHART)),
            mean_distance(CHART), swap_takings(CHART, 0, 1), turn_takings(CHART, (1, 0, 2)), names_to_come(FULL),
        ]
        self.assertEqual(got, [1, None, 3, 1, 2, (1, 2), None, 0, ((0, 1, 2),)])

    def test_links(self):
        for maps in plain.classes_up_to(2000):
            pairs = {frozenset((one, other)) for one in maps for other in plain.ahead(one)}
            self.assertEqual(links(maps[len(maps) // 2]), len(pairs))
        for chart in plain.every_some_map(1):
            self.assertEqual(links(chart), sum(len(plain.ahead(one)) for one in plain.walk(chart)) // 2)

    def test_rounds_by_all_rows(self):
        seen = set()
        for maps in plain.classes_up_to(30):
            for chart in maps[::5] + maps[-1:]:
                lengths = [many for many in range(3, min(len(maps), 8) + 1) if rounds_through(chart, many)]
                if lengths:
                    self.assertEqual(shortest_round(chart), lengths[0])
                else:
                    self.assertEqual(shortest_round(chart), round_by_going_back(chart))
                seen.add(shortest_round(chart))
        self.assertTrue({None, 3, 4} <= seen)

    def test_rounds_of_whole_classes(self):
        seen = set()
        for maps in plain.classes_up_to(108):
            for chart in maps:
                self.assertEqual(shortest_round(chart), round_by_going_back(chart))
                seen.add(shortest_round(chart))
        self.assertTrue({None, 3, 4} <= seen, seen)

    def test_rounds_of_greater_classes(self):
        for size in ((3, 4, 4), (4, 4, 4), (3, 4, 5), (4, 4, 5)):
            maps = plain.greatest_class(*size)
            for chart in maps[::len(maps) // 9]:
                self.assertEqual(shortest_round(chart), round_by_going_back(chart))

    def test_classes_without_a_round(self):
        for length in range(1, 5):
            # One border on one arm: the maps of the class stand in a line.
            maps = [(3, (0,) * (2 * length + 1 + at) + (1,) * (length - at)) for at in range(length)]
            for chart in maps:
                self.assertIsNone(shortest_round(chart))
                self.assertEqual(links(chart), length - 1)
                self.assertEqual(diameter(chart), length - 1)
            middle = sorted(maps)[(length - 1) // 2:length // 2 + 1]
            self.assertEqual(centers(maps[0]), tuple(middle))
        self.assertEqual(shortest_round((4, (0, 0, 0, 0, 0, 0, 1, 0, 2))), 4)

    def test_distances_of_whole_classes(self):
        for maps in plain.classes_up_to(120):
            far = {chart: max(plain.walk(chart).values()) for chart in maps}
            total = sum(sum(plain.walk(chart).values()) for chart in maps)
            for chart in {maps[0], maps[-1]}:
                self.assertEqual(diameter(chart), max(far.values()))
                self.assertEqual(centers(chart), tuple(one for one in maps if far[one] == min(far.values())))
                self.assertEqual(mean_distance(chart), plain.ratio(total, len(maps) ** 2))
                self.assertEqual(farthest(centers(chart)[0]), min(far.values()))

    def test_classes_of_one_map_and_of_two(self):
        self.assertEqual((links(ALONE), shortest_round(ALONE), diameter(ALONE)), (0, None, 0))
        self.assertEqual((centers(ALONE), mean_distance(ALONE)), ((ALONE,), (0, 1)))
        self.assertEqual((links(CHART), shortest_round(CHART), diameter(CHART)), (1, None, 1))
        self.assertEqual((len(centers(CHART)), mean_distance(CHART)), (2, (1, 2)))

    def test_classes_of_at_most_120_maps(self):
        sizes = set()
        for size in plain.SIZES:
            for maps in plain.kinds_of_classes(*size):
                sizes.add(len(maps))
                self.assertEqual(class_size(maps[0]), len(maps))
                for function in (diameter, centers, mean_distance):
                    if len(maps) > 120:
                        with self.assertRaises(TooMany) as caught:
                            function(maps[-1])
                        self.assertEqual(caught.exception.most, 120)
        self.assertEqual(sorted(many for many in sizes if many > 80), [81, 108, 208, 256, 984, 1408])
        for function in (links, shortest_round):
            function(plain.greatest_class(3, 4, 4)[0])

    def test_lands_that_change_places(self):
        seen = set()
        for chart in plain.every_some_map(2) + [ALONE]:
            steps = plain.walk(chart)
            lands = range(plain.lands_of(chart))
            for one, other in permutations(lands, 2):
                if one < other or len(steps) < 50:
                    wanted = steps.get(swapped(chart, one, other))
                    self.assertEqual(swap_takings(chart, one, other), wanted)
                    seen.add(wanted)
        self.assertIn(None, seen)
        self.assertTrue(any(takings and takings % 2 for takings in seen))
        # Frozen maps keep the orders of their lands: no two of these change places.
        for chart in (CHART, ALONE):
            self.assertIsNone(swap_takings(chart, 0, 1))
            self.assertIsNone(swap_takings(chart, 1, 0))

    def test_lands_that_are_no_arm_s_own_change_places(self):
        found = 0
        for chart in plain.greatest_class(3, 4, 5)[::150]:
            own = {row[-1] for row in plain.rows_of(chart)}
            one, other = [land for land in range(5) if land not in own]
            takings = swap_takings(chart, one, other)
            self.assertEqual(takings, plain.walk(chart)[swapped(chart, one, other)])
            self.assertEqual(swap_takings(chart, other, one), takings)
            self.assertIsNone(swap_takings(chart, one, min(own)))
            found = max(found, takings)
        self.assertGreater(found, 5)

    def test_a_land_changed_to_itself(self):
        for chart in (WARM, FULL, CHART, ALONE):
            for land in range(plain.lands_of(chart)):
                self.assertRaises(BadLand, swap_takings, chart, land, land)
        for land in (3, -1, True, None, "1", (1,), [1], {}):
            self.assertRaises(BadLand, swap_takings, WARM, land, 0)
            self.assertRaises(BadLand, swap_takings, WARM, 0, land)
            self.assertRaises(BadLand, swap_takings, WARM, land, land)
            self.assertRaises(BadMap, swap_takings, None, land, 0)

    def test_arms_that_change_places(self):
        seen = set()
        for chart in plain.every_some_map(1) + [ALONE]:
            steps = plain.walk(chart)
            orders = list(permutations(range(chart[0])))
            for order in orders if len(steps) < 50 else orders[::5]:
                wanted = steps.get(with_arms(chart, order))
                self.assertEqual(turned(chart, order), with_arms(chart, order))
                self.assertEqual(turn_takings(chart, order), wanted)
                seen.add(wanted)
            self.assertEqual(turn_takings(chart, orders[0]), 0)
        self.assertTrue({None, 0} <= seen)

    def test_arms_of_which_two_are_alike(self):
        chart = (4, (0, 0, 0, 0, 0, 0, 0, 0, 1))
        for order in permutations(range(4)):
            self.assertEqual(turn_takings(chart, order), 0 if order[3] == 3 else None)
        # Bare arms change places with others only if these are bare, too.
        for maps in plain.classes_up_to(120):
            for chart in maps[::20]:
                for order in permutations(range(chart[0])):
                    wanted = plain.walk(chart).get(with_arms(chart, order))
                    self.assertEqual(turn_takings(chart, order), wanted)

    def test_orders_that_are_none(self):
        wrong_orders = [(0, 1), (0, 1, 2, 3), (0, 1, 1), (1, 2, 3), [0, 1, 2], (0, 1, True), None, "012", 0, {}]
        for order in wrong_orders + [(0, 1, "2")]:
            self.assertRaises(BadOrders, turn_takings, WARM, order)
            self.assertRaises(BadMap, turn_takings, None, order)

    def test_names_to_come(self):
        for chart in plain.every_some_map(1) + [ALONE]:
            maps = plain.walk(chart)
            orders = permutations(range(plain.lands_of(chart)))
            found = tuple(order for order in orders if renamed(chart, order) in maps)
            self.assertEqual(names_to_come(chart), found)
            if not plain.frozen(chart):
                own = {row[-1] for row in plain.rows_of(chart)}
                orders = permutations(range(plain.lands_of(chart)))
                self.assertEqual(found, tuple(order for order in orders if all(order[land] == land for land in own)))
            else:
                self.assertEqual(found, (tuple(range(plain.lands_of(chart))),))

    def test_names_to_come_of_whole_classes(self):
        for size in plain.SIZES:
            for maps in plain.kinds_of_classes(*size):
                orders = permutations(range(size[2]))
                found = tuple(order for order in orders if renamed(maps[0], order) in plain.walk(maps[0]))
                self.assertEqual({names_to_come(chart) for chart in maps[::len(maps) // 3 + 1]}, {found})

    def test_wrong_inputs(self):
        for function in (links, shortest_round, diameter, centers, mean_distance, names_to_come):
            wrong.check_wrong(self, function, wrong.chart())
        wrong.check_wrong(self, swap_takings, wrong.chart(), wrong.land(0, 2), wrong.land(1, 2))
        wrong.check_wrong(self, turn_takings, wrong.chart(), wrong.order())


if __name__ == "__main__":
    unittest.main()
