import unittest
from fractions import Fraction
from itertools import combinations
from math import comb, factorial, prod

from starlands.borders import from_orders, hub_land, orders
from starlands.classes import class_counts, great_class, map_count
from starlands.errors import BadMap, NotFrozen, NotOne
from starlands.frozen import (
    border_places, frozen_count, frozen_distance, frozen_share, great_classes, great_count, great_frozen, same_chance,
)
from tests import plain, wrong

CHART = (3, (0, 0, 0, 0, 0, 0, 1))
THERE = (3, (0, 0, 0, 0, 0, 1, 1))
WARM = (3, (0, 0, 0, 0, 1, 2, 2))

# Islands on which all ways to place the borders can be gone through.
MIDDLE = [
    (5, 2, 3), (5, 3, 4), (6, 3, 3), (3, 6, 4), (3, 5, 6), (4, 5, 5), (12, 1, 2), (12, 2, 3), (7, 4, 3), (8, 3, 4),
]
GREAT = [
    (12, 30, 31), (12, 30, 2), (12, 30, 11), (12, 30, 12), (12, 11, 12), (12, 10, 11), (11, 30, 31), (3, 30, 31),
    (4, 30, 31), (3, 30, 2), (3, 30, 3), (7, 13, 14), (9, 20, 5), (5, 30, 17), (12, 1, 2), (3, 5, 2),
]


def ratio(top, bottom):
    share = Fraction(top, bottom)
    return (share.numerator, share.denominator)


def borders_by_arms(arms, length, lands):
    """The numbers of ways to place the borders, by the numbers of borders on the arms."""
    ways = {}
    for cut in combinations(range(arms * length), lands - 1):
        on_arms = [0] * arms
        for place in cut:
            on_arms[place // length] += 1
        ways[tuple(on_arms)] = ways.get(tuple(on_arms), 0) + 1
    return ways


def parted(arms, length, borders):
    """All ways to part the borders among the arms, by how many arms are used and what they carry, with their number."""
    def parts(left, most, used):
        if left == 0:
            yield ()
        elif used < arms:
            for part in range(min(left, most), 0, -1):
                for rest in parts(left - part, part, used + 1):
                    yield (part,) + rest
    for counts in parts(borders, length, 0):
        alike = prod(factorial(counts.count(part)) for part in set(counts))
        yield counts, factorial(arms) // factorial(arms - len(counts)) // alike


def numbers_by_parts(arms, length, lands):
    """All maps, frozen maps, frozen classes and pairs of frozen maps of one class, by ways to part the borders."""
    maps = frozen = classes = pairs = 0
    for counts, times in parted(arms, length, lands - 1):
        size = prod(comb(length, part) for part in counts)
        maps += times * size
        if len(counts) <= arms - 2:
            frozen += times * size
            classes += times
            pairs += times * size * size
    names = factorial(lands)
    return maps * names, frozen * names, classes * names, pairs * names


class FrozenTest(unittest.TestCase):
    def test_document(self):
        got = [
            border_places(WARM), frozen_distance(CHART, THERE), frozen_count(3, 2, 3), great_count(3, 2, 3),
            great_frozen(3, 2, 2), great_classes(3, 2, 3), frozen_share(3, 2, 3), same_chance(3, 2, 2),
        ]
        self.assertEqual(got, [((), (1,), (0,)), 1, 18, 90, 12, (6, 18), (1, 5), (1, 6)])

    def test_border_places(self):
        for chart in plain.every_some_map():
            places = border_places(chart)
            self.assertEqual(places, plain.order_of(chart)[1])
            length = plain.length_of(chart)
            self.assertEqual(from_orders(length, hub_land(chart), orders(chart), places), chart)
            cuts = [(1 + arm * length + place) for arm in range(chart[0]) for place in places[arm]]
            self.assertEqual(sorted(cuts), sorted(outer for _, outer in plain.cuts(chart)))

    def test_border_places_of_all_small_maps(self):
        for size in plain.SMALL_SIZES:
            for chart in plain.all_maps(*size):
                self.assertEqual(border_places(chart), plain.order_of(chart)[1])

    def test_frozen_distance_by_walking(self):
        seen = 0
        for size in plain.SIZES:
            for maps in plain.kinds_of_classes(*size):
                if plain.frozen(maps[0]):
                    for one in (maps[0], maps[-1], maps[len(maps) // 2]):
                        for other, steps in plain.walk(one).items():
                            self.assertEqual(frozen_distance(one, other), steps)
                            seen = max(seen, steps)
        self.assertGreater(seen, 6)

    def test_maps_that_are_not_frozen(self):
        for chart in plain.every_some_map():
            if not plain.frozen(chart):
                for other in (chart, CHART, None, 0, (3, (0, 0, 0, 0)), {}, []):
                    self.assertRaises(NotFrozen, frozen_distance, chart, other)

    def test_maps_of_other_classes(self):
        for size in plain.SIZES:
            maps = plain.some_maps(*size, 12)
            for one in maps:
                for other in maps:
                    if plain.frozen(one) and other not in plain.walk(one):
                        self.assertRaises(NotOne, frozen_distance, one, other)

    def test_unlike_islands_or_numbers_of_lands(self):
        for one, other in plain.unlike_pairs():
            self.assertTrue(plain.frozen(one))
            self.assertRaises(NotOne, frozen_distance, one, other)
        for value in (None, (3, (0, 0, 0, 0)), [3, THERE[1]], list(THERE), (3, list(THERE[1])), True):
            self.assertRaises(BadMap, frozen_distance, CHART, value)

    def test_numbers_by_all_maps(self):
        for size in plain.SIZES:
            maps = plain.all_maps(*size)
            frozen = sum(map(plain.frozen, maps))
            self.assertEqual(frozen_count(*size), frozen)
            self.assertEqual(great_frozen(*size), frozen)
            self.assertEqual(great_count(*size), len(maps))
            self.assertEqual(frozen_share(*size), ratio(frozen, len(maps)))
            self.assertEqual(great_count(*size), map_count(*size))
            self.assertEqual(great_classes(*size), class_counts(*size))

    def test_same_chance_by_all_classes(self):
        for size in plain.SIZES:
            if map_count(*size) > 2100:
                continue
            left = set(plain.all_maps(*size))
            pairs = 0
            while left:
                maps = plain.walk(left.pop())
                pairs += len(maps) ** 2
                left -= set(maps)
            self.assertEqual(same_chance(*size), ratio(pairs, map_count(*size) ** 2))

    def test_same_chance_by_own_lands_and_orders(self):
        for size in plain.SIZES:
            classes = {}
            for chart in plain.all_maps(*size):
                if plain.frozen(chart):
                    key = (chart[1][0], plain.order_of(chart)[0])
                else:
                    key = tuple(row[-1] for row in plain.rows_of(chart))
                classes[key] = classes.get(key, 0) + 1
            pairs = sum(many * many for many in classes.values())
            self.assertEqual(same_chance(*size), ratio(pairs, map_count(*size) ** 2))
            self.assertEqual(sum(great_classes(*size)), len(classes))

    def test_greater_islands_by_all_ways_to_place_borders(self):
        for size in MIDDLE:
            arms, length, lands = size
            ways = borders_by_arms(*size)
            names = factorial(lands)
            frozen_ways = {on_arms: many for on_arms, many in ways.items() if on_arms.count(0) >= 2}
            warm = sum(ways.values()) - sum(frozen_ways.values())
            self.assertEqual(great_count(*size), sum(ways.values()) * names)
            self.assertEqual(great_frozen(*size), sum(frozen_ways.values()) * names)
            own = factorial(lands) // factorial(lands - arms) if lands >= arms else 0
            self.assertEqual(great_classes(*size), (own, len(frozen_ways) * names))
            self.assertEqual(warm > 0, own > 0)
            pairs = sum(many * many for many in frozen_ways.values()) * names
            pairs += own * (warm * factorial(max(0, lands - arms))) ** 2
            self.assertEqual(same_chance(*size), ratio(pairs, great_count(*size) ** 2))

    def test_great_islands_by_ways_to_part_borders(self):
        for size in GREAT + MIDDLE:
            arms, length, lands = size
            maps, frozen, classes, pairs = numbers_by_parts(*size)
            own = factorial(lands) // factorial(lands - arms) if lands >= arms else 0
            self.assertEqual(great_count(*size), maps)
            self.assertEqual(great_frozen(*size), frozen)
            self.assertEqual(great_classes(*size), (own, classes))
            self.assertEqual(frozen_share(*size), ratio(frozen, maps))
            self.assertEqual(own * great_class(*size), maps - frozen)
            pairs += own * great_class(*size) ** 2
            self.assertEqual(same_chance(*size), ratio(pairs, maps ** 2))

    def test_great_islands_of_the_fewest_and_the_most_lands(self):
        self.assertEqual(great_count(12, 30, 2), 720)
        self.assertEqual(great_frozen(12, 30, 2), 720)
        self.assertEqual(great_classes(12, 30, 2), (0, 24))
        self.assertEqual(frozen_share(12, 30, 2), (1, 1))
        self.assertEqual(same_chance(12, 30, 2), (1, 24))
        self.assertEqual(great_count(12, 30, 31), comb(360, 30) * factorial(31))
        self.assertEqual(great_classes(12, 30, 31)[0], factorial(31) // factorial(19))

    def test_numbers_of_lands_without_a_class_that_is_not_frozen(self):
        for arms in range(3, 13):
            for lands in range(2, arms):
                for length in (lands - 1, 12, 30):
                    self.assertEqual(great_frozen(arms, length, lands), great_count(arms, length, lands))
                    self.assertEqual(great_classes(arms, length, lands)[0], 0)
                    self.assertEqual(frozen_share(arms, length, lands), (1, 1))
            self.assertGreater(great_classes(arms, 30, arms)[0], 0)
            self.assertLess(Fraction(*frozen_share(arms, 30, arms)), 1)

    def test_wrong_inputs(self):
        wrong.check_wrong(self, border_places, wrong.chart())
        wrong.check_wrong(self, frozen_distance, wrong.frozen_chart(CHART), wrong.class_chart(CHART, THERE))
        wrong.check_wrong(self, frozen_count, wrong.arms(), wrong.length(), wrong.lands())
        wrong.check_wrong(self, frozen_count, wrong.arms(4), wrong.length(4), wrong.lands(5, 5))
        for function in (great_count, great_frozen, great_classes, frozen_share, same_chance):
            wrong.check_wrong(self, function, wrong.arms(3, 12), wrong.length(2, 30), wrong.lands())
            wrong.check_wrong(self, function, wrong.arms(12, 12), wrong.length(30, 30), wrong.lands(31, 31))


if __name__ == "__main__":
    unittest.main()
