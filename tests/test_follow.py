import unittest
from fractions import Fraction
from functools import lru_cache
from itertools import product

from starlands.errors import BadLand, BadMap, BadRows, NotOne, TooMany
from starlands.follow import can_follow, follow_count, follow_row, hub_distances, hub_within, mean_hub, next_hubs
from tests import plain, wrong

CHART = (3, (0, 0, 0, 0, 0, 0, 1))
WARM = (3, (0, 0, 0, 0, 1, 2, 2))
FULL = (3, (0, 0, 0, 1, 1, 2, 2))
ALONE = (3, (0, 0, 0, 1))


@lru_cache(None)
def least_rows(chart, many):
    """For each tuple of up to so many holders of the hub, one after another, the least number of takings of a row.

    It walks through all maps with the holders up to them.
    """
    first = (chart, chart[1][:1])
    steps = {first: 0}
    least = {first[1]: 0}
    waiting = [first]
    for state in waiting:
        one, holders = state
        for other in plain.ahead(one):
            after = holders if other[1][0] == holders[-1] else holders + other[1][:1]
            if len(after) <= many and (other, after) not in steps:
                steps[other, after] = steps[state] + 1
                least.setdefault(after, steps[other, after])
                waiting.append((other, after))
    return least


def row_by_holders(chart, holders):
    """As `least_rows`, for one tuple, by walking through all maps with the number of the holder."""
    if chart[1][0] != holders[0]:
        return None
    steps = {(chart, 0): 0}
    waiting = [(chart, 0)]
    for state in waiting:
        one, at = state
        if at == len(holders) - 1:
            return steps[state]
        for other in plain.ahead(one):
            after = at + (other[1][0] != one[1][0])
            if other[1][0] == holders[after] and (other, after) not in steps:
                steps[other, after] = steps[state] + 1
                waiting.append((other, after))
    return None


def unlike_neighbors(lands, many):
    for holders in product(range(lands), repeat=many):
        if all(holders[at] != holders[at + 1] for at in range(many - 1)):
            yield holders


def holder_steps(chart):
    """For each land the least number of takings behind which it holds the hub."""
    steps = plain.walk(chart)
    found = [[steps[one] for one in steps if one[1][0] == land] for land in range(plain.lands_of(chart))]
    return tuple(min(some) if some else None for some in found)


class FollowTest(unittest.TestCase):
    def test_document(self):
        got = [
            can_follow(FULL, (0, 1, 2)), follow_row(FULL, (0, 1)), follow_count(FULL, 2), next_hubs(FULL),
            hub_distances(WARM), hub_within(WARM, 1), mean_hub(WARM, 0),
        ]
        self.assertEqual(got, [True, 1, 2, (1, 2), (0, 2, 2), (0,), (0, 1)])

    def check_all(self, chart, most):
        least = least_rows(chart, most)
        for many in range(1, most + 1):
            for holders in unlike_neighbors(plain.lands_of(chart), many):
                self.assertEqual(follow_row(chart, holders), least.get(holders), (chart, holders))
                self.assertIs(can_follow(chart, holders), holders in least)
            self.assertEqual(follow_count(chart, many), sum(len(holders) == many for holders in least))

    def test_all_tuples_of_small_classes(self):
        for maps in plain.classes_up_to(12):
            for chart in maps[::5]:
                self.check_all(chart, 4)
        for chart in (WARM, FULL):
            self.check_all(chart, 6)

    def test_all_tuples_of_other_classes(self):
        for size in ((3, 3, 3), (3, 3, 4), (4, 3, 4)):
            for chart in plain.greatest_class(*size)[::31]:
                self.check_all(chart, 3)
        for size in ((3, 3, 2), (4, 4, 4), (3, 4, 5)):
            self.check_all(plain.kinds_of_classes(*size)[0][0], 3)

    def test_counts(self):
        for size in ((3, 2, 3), (3, 3, 3), (3, 3, 4), (4, 3, 4), (3, 4, 3)):
            chart = plain.greatest_class(*size)[-1]
            for many in range(1, 6):
                self.assertEqual(follow_count(chart, many), sum(len(key) == many for key in least_rows(chart, 5)))
        for size in ((3, 4, 4), (4, 4, 4)):
            chart = plain.greatest_class(*size)[7]
            self.assertEqual(follow_count(chart, 4), sum(len(key) == 4 for key in least_rows(chart, 4)))

    def test_six_holders(self):
        for chart in (WARM, plain.greatest_class(3, 3, 4)[3]):
            least = least_rows(chart, 6)
            self.assertEqual(follow_count(chart, 6), sum(len(key) == 6 for key in least))
        self.assertLess(follow_count(plain.greatest_class(3, 3, 4)[3], 6), 3 ** 5)

    def test_one_holder_and_eight(self):
        for chart in plain.every_some_map(1):
            for land in range(plain.lands_of(chart)):
                is_holder = chart[1][0] == land
                self.assertEqual(follow_row(chart, (land,)), 0 if is_holder else None)
                self.assertIs(can_follow(chart, (land,)), is_holder)
            self.assertEqual(follow_count(chart, 1), 1)
        seen = set()
        for chart in (WARM, plain.greatest_class(3, 3, 4)[5], plain.greatest_class(4, 3, 4)[-5]):
            numbers = plain.Numbers(4)
            for _ in range(12):
                holders = [chart[1][0]]
                while len(holders) < 8:
                    land = numbers.below(plain.lands_of(chart))
                    holders += [land] if land != holders[-1] else []
                takings = row_by_holders(chart, holders)
                self.assertEqual(follow_row(chart, tuple(holders)), takings)
                self.assertIs(can_follow(chart, tuple(holders)), takings is not None)
                seen.add(takings is None)
        self.assertEqual(seen, {True, False})

    def test_greater_classes(self):
        for size in ((3, 4, 4), (4, 4, 4), (3, 4, 5), (4, 4, 5)):
            chart = plain.greatest_class(*size)[11]
            hub = chart[1][0]
            for first in range(size[2]):
                for second in (0, size[2] - 1):
                    if hub != first != second:
                        holders = (hub, first, second)
                        self.assertEqual(follow_row(chart, holders), row_by_holders(chart, holders))

    def test_frozen_maps(self):
        for chart in plain.every_some_map(4):
            if plain.frozen(chart):
                hub = chart[1][0]
                self.assertEqual([follow_count(chart, many) for many in range(1, 7)], [1, 0, 0, 0, 0, 0])
                for land in range(plain.lands_of(chart)):
                    if land != hub:
                        self.assertIsNone(follow_row(chart, (hub, land)))
                        self.assertIs(can_follow(chart, (hub, land, hub)), False)
                self.assertEqual(next_hubs(chart), ())
                self.assertEqual(hub_within(chart, 60), (hub,))

    def test_next_hubs(self):
        for chart in plain.every_some_map(3):
            found = [key[1] for key in least_rows(chart, 2) if len(key) == 2]
            self.assertEqual(next_hubs(chart), tuple(sorted(found)))
        self.assertEqual((next_hubs(WARM), next_hubs(ALONE)), ((1, 2), ()))

    def test_a_land_that_must_wait_for_another(self):
        chart = (3, (0, 0, 0, 0, 1, 3, 3, 2, 2, 2))
        self.assertEqual((next_hubs(chart), hub_distances(chart)[3]), ((1, 2), holder_steps(chart)[3]))
        self.assertIsNone(follow_row(chart, (0, 3)))
        self.assertIs(can_follow(chart, (0, 1, 3)), True)

    def test_hub_distances_and_within(self):
        for chart in plain.every_some_map(3):
            steps = holder_steps(chart)
            self.assertEqual(hub_distances(chart), steps)
            for many in [0, 1, 2, 3, 4, 60] + [least for least in steps if least is not None]:
                lands = [land for land, least in enumerate(steps) if least is not None and least <= many]
                self.assertEqual(hub_within(chart, many), tuple(lands))
        self.assertEqual((hub_distances(CHART), hub_within(CHART, 60), hub_within(CHART, 0)), ((0, None), (0,), (0,)))
        self.assertEqual((hub_within(WARM, 1), hub_within(WARM, 2), hub_within(FULL, 1)), ((0,), (0, 1, 2), (0, 1, 2)))

    def test_mean_hub_settles_the_means_of_all_maps(self):
        seen = 0
        for maps in plain.classes_up_to(30):
            for land in range(plain.lands_of(maps[0])):
                if not any(chart[1][0] == land for chart in maps):
                    continue
                means = {chart: Fraction(*mean_hub(chart, land)) for chart in maps}
                for chart in maps:
                    self.assertEqual(mean_hub(chart, land), plain.ratio(means[chart]))
                    if chart[1][0] == land:
                        self.assertEqual(mean_hub(chart, land), (0, 1))
                    else:
                        near = plain.ahead(chart)
                        self.assertEqual(means[chart], 1 + sum(means[other] for other in near) / len(near))
                        seen += 1
        self.assertGreater(seen, 50)

    def test_classes_of_at_most_30_maps(self):
        sizes = set()
        for maps in plain.classes_up_to(120):
            chart = maps[-1]
            sizes.add(len(maps))
            if len(maps) > 30:
                for land in range(plain.lands_of(chart)):
                    if any(some[1][0] == land for some in maps):
                        self.check_too_many(chart, land)
        self.assertTrue({27, 36} <= sizes and not sizes & {28, 29, 30, 31})
        for size in ((3, 4, 4), (4, 4, 4), (3, 4, 5), (4, 4, 5)):
            chart = plain.greatest_class(*size)[0]
            self.check_too_many(chart, chart[1][0])

    def check_too_many(self, chart, land):
        with self.assertRaises(TooMany) as caught:
            mean_hub(chart, land)
        self.assertEqual(caught.exception.most, 30)

    def test_lands_that_never_can_hold_the_hub(self):
        sizes = set()
        for maps in plain.classes_up_to(120):
            for chart in maps[:1] + maps[-1:]:
                for land in range(plain.lands_of(chart)):
                    if not any(some[1][0] == land for some in maps):
                        self.assertRaises(NotOne, mean_hub, chart, land)
                        sizes.add(len(maps) > 30)
                for land in (-1, plain.lands_of(chart), True, None, "0"):
                    self.assertRaises(BadLand, mean_hub, chart, land)
        # NotOne comes ahead of TooMany.
        self.assertEqual(sizes, {True, False})

    def test_lands_that_are_none_and_wrong_numbers_of_them(self):
        for lands in ((), (0, 1) * 4 + (0,), [0], [0, 1], None, 0, "0", {0: 1}, (None,) * 9):
            self.assertRaises(BadRows, can_follow, WARM, lands)
            self.assertRaises(BadRows, follow_row, WARM, lands)
            self.assertRaises(BadMap, follow_row, None, lands)
        for lands in ((0, 0), (1, 1), (0, 1, 1), (3,), (1, 3), (True,), (0, None), (1, 2, 2), (0, 1) * 3 + (0, 0)):
            self.assertRaises(BadLand, can_follow, WARM, lands)
            self.assertRaises(BadLand, follow_row, WARM, lands)
        self.assertRaises(BadLand, follow_row, CHART, (0, 2))
        self.assertIsNone(follow_row(WARM, (1, 0)))

    def test_wrong_inputs(self):
        for function in (can_follow, follow_row):
            wrong.check_wrong(self, function, wrong.chart(), wrong.followers())
        wrong.check_wrong(self, follow_count, wrong.chart(), wrong.count(3, 1, 6))
        for function in (next_hubs, hub_distances):
            wrong.check_wrong(self, function, wrong.chart())
        for many in (0, 60):
            wrong.check_wrong(self, hub_within, wrong.chart(), wrong.count(many, 0, 60))
        wrong.check_wrong(self, mean_hub, wrong.chart(), wrong.land())


if __name__ == "__main__":
    unittest.main()
