import unittest
from itertools import combinations_with_replacement, permutations
from math import factorial

from starlands.arranged import (
    all_arrangements, arrangement_count, arrangements, degree_counts, freest, shows_freest, turns_between,
)
from starlands.classes import class_counts
from starlands.errors import BadArms, BadLands, BadMap, NotOne
from starlands.frozen import great_classes
from starlands.turns import fewest_turns
from tests import plain, wrong

CHART = (3, (0, 0, 0, 0, 0, 0, 1))
THERE = (3, (0, 0, 0, 0, 0, 1, 1))
WARM = (3, (0, 0, 0, 0, 1, 2, 2))
FULL = (3, (0, 0, 0, 1, 1, 2, 2))
ALONE = (3, (0, 0, 0, 1))
OTHERS = ((3, (0, 0, 0, 0, 0, 1, 2)), (3, (1, 1, 1, 1, 0, 2, 2)), (3, (0, 0, 0, 2, 2, 1, 1)))


def arrangement(chart):
    return (chart[1][0], plain.order_of(chart)[0])


def all_orders(arms, lands):
    """All arrangements: the lands in any order, the first at the hub, the others cut into orders for the arms."""
    for names in permutations(range(lands)):
        for cut in combinations_with_replacement(range(1, lands + 1), arms - 1):
            ends = (1,) + cut + (lands,)
            yield (names[0], tuple(names[ends[arm]:ends[arm + 1]] for arm in range(arms)))


def own_of(told):
    """The arms' own lands by an arrangement, None for a frozen one."""
    hub, orders = told
    if orders.count(()) >= 2:
        return None
    return tuple(order[-1] if order else hub for order in orders)


def turns_by_walking(one, other):
    """The least number of takings of the hub, over all maps with the two arrangements."""
    return min(
        plain.turn_pair(first, second)[0]
        for first in plain.walk(one) if arrangement(first) == arrangement(one)
        for second in plain.walk(one) if arrangement(second) == arrangement(other)
    )


def turns_by_arrangements(one):
    """For each arrangement the least number of takings of the hub, by walking through sets of maps."""
    links = {}
    for some in plain.walk(one):
        for other in plain.ahead(some):
            if other[1][0] != some[1][0]:
                links.setdefault(arrangement(some), set()).add(arrangement(other))
    turns = {arrangement(one): 0}
    waiting = [arrangement(one)]
    for told in waiting:
        for other in links.get(told, ()):
            if other not in turns:
                turns[other] = turns[told] + 1
                waiting.append(other)
    return turns


class ArrangedTest(unittest.TestCase):
    def test_document(self):
        full, other = (3, (0, 0, 0, 1, 1, 2, 2)), (3, (1, 0, 0, 1, 1, 2, 2))
        got = [
            arrangements(CHART), arrangement_count(3, 5), all_arrangements(3, 3), degree_counts(CHART),
            turns_between(full, other),
        ]
        self.assertEqual(got, [((0, ((), (), (1,))),), 24, 36, (0, 2), 1])

    def test_arrangements(self):
        for size in plain.SIZES:
            for maps in plain.kinds_of_classes(*size):
                found = tuple(sorted({arrangement(some) for some in maps}))
                self.assertEqual(arrangements(maps[-1]), found)
                if plain.frozen(maps[0]):
                    self.assertEqual(len(found), 1)
                else:
                    self.assertEqual(arrangement_count(size[0], size[2]), len(found))

    def test_other_maps(self):
        for size in plain.SMALL_SIZES:
            for chart in plain.all_maps(*size)[::5]:
                found = {arrangement(some) for some in plain.walk(chart)}
                self.assertEqual(arrangements(chart), tuple(sorted(found)))

    def test_counts_of_all_maps(self):
        for size in plain.SIZES:
            if size[0] * size[1] < 13 or size[2] < 4:
                found = {arrangement(chart) for chart in plain.all_maps(*size)}
                self.assertEqual(all_arrangements(size[0], size[2]), len(found))

    def test_counts_by_all_orders(self):
        for arms in range(3, 7):
            for lands in range(2, 7):
                found = set(all_orders(arms, lands))
                self.assertEqual(all_arrangements(arms, lands), len(found))
                counts = {}
                for told in found:
                    counts[own_of(told)] = counts.get(own_of(told), 0) + 1
                counts.pop(None, None)
                self.assertEqual(set(counts.values()) or {0}, {arrangement_count(arms, lands)})

    def test_counts_by_classes(self):
        for arms in range(3, 13):
            for lands in range(2, 13):
                warm, frozen = great_classes(arms, 30, lands)
                self.assertEqual(all_arrangements(arms, lands), warm * arrangement_count(arms, lands) + frozen)

    def test_fewer_lands_than_arms_and_as_many(self):
        for arms in range(3, 13):
            for lands in range(2, arms):
                self.assertEqual(arrangement_count(arms, lands), 0)
            self.assertEqual(arrangement_count(arms, arms), arms)
            if arms < 12:
                # The land that is no arm's own holds the hub, or is on one of the arms.
                self.assertEqual(arrangement_count(arms, arms + 1), 1 + arms * (arms - 1))
            self.assertEqual(all_arrangements(arms, 2), 2 * arms)
        self.assertEqual(arrangement_count(3, 12), factorial(9) * (3 * 10 + 45))
        self.assertEqual(arrangement_count(12, 12), 12)

    def test_numbers_of_arms_and_lands_that_are_none(self):
        for function in (arrangement_count, all_arrangements):
            for arms in (2, 13, 0, -3, True, None, "3", (3,)):
                self.assertRaises(BadArms, function, arms, 3)
                self.assertRaises(BadArms, function, arms, None)
            for lands in (1, 13, 0, -2, True, None, "2", (2,)):
                self.assertRaises(BadLands, function, 3, lands)

    def test_turns_between_by_all_pairs_of_maps(self):
        for chart in (FULL, (3, (0, 0, 0, 0, 0, 0, 0, 0, 1, 2)), ALONE):
            for other in plain.walk(chart):
                self.assertEqual(turns_between(chart, other), turns_by_walking(chart, other))

    def test_turns_between_by_arrangements(self):
        seen = set()
        for size in plain.SIZES:
            for maps in plain.kinds_of_classes(*size):
                one = maps[len(maps) // 3]
                turns = turns_by_arrangements(one)
                farther = {turns[arrangement(other)]: other for other in maps}
                for other in maps[::len(maps) // 9 + 1] + list(farther.values()):
                    self.assertEqual(turns_between(one, other), turns[arrangement(other)])
                    self.assertEqual(turns_between(one, other), fewest_turns(one, other))
                    seen.add(turns_between(one, other))
        self.assertTrue({0, 1, 2, 3, 4} <= seen)

    def test_turns_between_maps_with_one_arrangement(self):
        for one in plain.walk(WARM):
            for other in plain.walk(WARM):
                self.assertEqual(turns_between(one, other) == 0, arrangement(one) == arrangement(other))
        self.assertEqual((turns_between(CHART, THERE), turns_between(ALONE, ALONE)), (0, 0))

    def test_unlike_classes_and_islands(self):
        for other in OTHERS:
            self.assertRaises(NotOne, turns_between, WARM, other)
            self.assertRaises(NotOne, turns_between, other, WARM)
        for one, other in plain.unlike_pairs():
            self.assertRaises(NotOne, turns_between, one, other)
        self.assertRaises(BadMap, turns_between, None, WARM)
        self.assertRaises(BadMap, turns_between, WARM, None)

    def test_degrees(self):
        for maps in plain.classes_up_to(2000):
            degrees = [len(plain.all_takings(some)) for some in maps]
            chart = maps[len(maps) // 2]
            counts = degree_counts(chart)
            self.assertEqual(counts, tuple(degrees.count(many) for many in range(max(degrees) + 1)))
            self.assertEqual(sum(counts), len(maps))
            most, free = freest(chart)
            self.assertEqual(most, max(degrees))
            self.assertIn(free, maps)
            self.assertEqual(len(plain.all_takings(free)), most)
            for some, degree in list(zip(maps, degrees))[::len(maps) // 40 + 1]:
                self.assertIs(shows_freest(chart, (most, some)), degree == most)
                self.assertIs(shows_freest(chart, (degree, some)), degree == most)

    def test_a_class_of_one_map(self):
        self.assertEqual((arrangements(ALONE), degree_counts(ALONE)), (((0, ((), (), (1,))),), (1,)))
        self.assertEqual(freest(ALONE), (0, ALONE))
        wrong.check_shows(self, shows_freest, (ALONE,), [(0, ALONE)], [(False, ALONE), (0, CHART), (1, ALONE)])

    def test_shows_freest(self):
        wrong.check_shows(self, shows_freest, (CHART,), [(1, CHART), (1, THERE)], [
            (True, CHART), (1, list(CHART)), [1, CHART], (1, CHART, 0), (1,), (0, CHART), (2, CHART), ("1", CHART),
            (1, None), (1, WARM), (1, (3, (0, 0, 0, 1))), (1, (3, [0, 0, 0, 0, 0, 1, 1])), (None, CHART), (CHART, 1),
            (1, (3, (0, 0, 0, 0, 1, 0, 0))), (1, (3, (1, 1, 1, 1, 1, 1, 0))), (1, (3, (0, 0, 0, 0, 0, 0, True))),
            (1, (4, (0, 0, 0, 0, 0, 0, 0, 0, 1))), {1: CHART}, (1, {}), (1, ([], [])), CHART, 1, (1, (3, ())),
        ])
        most, free = freest(FULL)
        rights = [(most, some) for some in plain.walk(FULL) if len(plain.all_takings(some)) == most]
        nears = [(most, some) for some in plain.all_maps(3, 2, 3)] + [(most - 1, free), (most + 1, free)]
        wrong.check_shows(self, shows_freest, (FULL,), rights, nears)

    def test_numbers_of_classes(self):
        for size in plain.SIZES:
            warm, frozen = class_counts(*size)
            total = warm * arrangement_count(size[0], size[2]) + frozen
            self.assertEqual(all_arrangements(size[0], size[2]), total)

    def test_wrong_inputs(self):
        for function in (arrangements, degree_counts, freest):
            wrong.check_wrong(self, function, wrong.chart())
        for function in (arrangement_count, all_arrangements):
            wrong.check_wrong(self, function, wrong.arms(3, 12), wrong.lands(2, 12))
            wrong.check_wrong(self, function, wrong.arms(12, 12), wrong.lands(12, 12))
        wrong.check_wrong(self, turns_between, wrong.chart(), wrong.class_chart(wrong.MAP, FULL))
        for last in (None, (4, FULL), "x"):
            def shown(chart, value=last):
                return shows_freest(chart, value)
            wrong.check_wrong(self, shown, wrong.chart())


if __name__ == "__main__":
    unittest.main()
