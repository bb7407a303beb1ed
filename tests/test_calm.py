import unittest
from itertools import product

from starlands.calm import calm_ends, calm_maps, goes_calm, is_calm, quickest_calm, wanted
from starlands.errors import BadMap, BadValues
from tests import plain, wrong

CHART = (3, (0, 0, 0, 0, 0, 0, 1))
THERE = (3, (0, 0, 0, 0, 0, 1, 1))
WARM = (3, (0, 0, 0, 0, 1, 2, 2))
FULL = (3, (0, 0, 0, 1, 1, 2, 2))
ALONE = (3, (0, 0, 0, 1))


def wants(chart, values):
    return [(land, cell) for land, cell in plain.all_takings(chart) if values[land][cell] > 0]


def reached(chart, values):
    return plain.walk_by(chart, lambda some: wants(some, values))


def ends_always(chart, values):
    """Whether no row has as many wanted takings as there are maps: one as long would come through a map twice."""
    ahead = {one: [plain.behind(one, taking) for taking in wants(one, values)] for one in reached(chart, values)}
    layer = {chart}
    for _ in ahead:
        layer = {other for one in layer for other in ahead[one]}
        if not layer:
            return True
    return False


def sparse_values(lands, cells, seed, share):
    """Values of which some are worth more than 0: about `share` of 10."""
    numbers = plain.Numbers(seed)
    return tuple(tuple(numbers.below(100) + 1 if numbers.below(10) < share else -numbers.below(101)
                       for _ in range(cells)) for _ in range(lands))


def values_that_want(chart, takings):
    """Values by which just these takings are wanted."""
    lands, cells = plain.lands_of(chart), len(chart[1])
    return tuple(tuple(int((land, cell) in takings) for cell in range(cells)) for land in range(lands))


class CalmTest(unittest.TestCase):
    def setUp(self):
        self.seen = set()

    def test_document(self):
        values = ((1, 1, 1, 1, 1, 1, 1), (0, 0, 0, 0, 0, 5, 2))
        got = [
            wanted(CHART, values), is_calm(CHART, values), goes_calm(CHART, values), calm_ends(CHART, values),
            quickest_calm(CHART, values),
        ]
        self.assertEqual(got, [((1, 5),), False, False, (), None])

    def check_all(self, chart, values):
        steps = reached(chart, values)
        calm = {some: many for some, many in steps.items() if not wants(some, values)}
        self.assertEqual(wanted(chart, values), tuple(wants(chart, values)))
        self.assertIs(is_calm(chart, values), not wants(chart, values))
        self.assertIs(goes_calm(chart, values), ends_always(chart, values))
        self.assertEqual(calm_ends(chart, values), tuple(sorted(calm)))
        self.assertEqual(quickest_calm(chart, values), min(calm.values(), default=None))
        self.seen.add((goes_calm(chart, values), min(2, len(calm)), quickest_calm(chart, values)))

    def check_calm_maps(self, chart, values):
        calm = tuple(sorted(some for some in plain.walk(chart) if not wants(some, values)))
        self.assertEqual(calm_maps(chart, values), calm)

    def test_small_classes(self):
        for at, maps in enumerate(plain.classes_up_to(48)):
            lands, cells = plain.lands_of(maps[0]), len(maps[0][1])
            for share in (1, 2, 3, 5, 8):
                values = sparse_values(lands, cells, 10 * at + share, share)
                self.check_calm_maps(maps[0], values)
                for chart in maps[::15] + maps[-1:]:
                    self.check_all(chart, values)
        kinds = {(goes, many) for goes, many, _ in self.seen}
        self.assertEqual(kinds, {(True, 1), (True, 2), (False, 0), (False, 1)})
        self.assertTrue({None, 0, 1, 2, 3} <= {quickest for _, _, quickest in self.seen})

    def test_greater_classes(self):
        for size in plain.SIZES:
            maps = plain.greatest_class(*size)
            if len(maps) > 48:
                for share in (1, 3):
                    values = sparse_values(size[2], len(maps[0][1]), size[1] + share, share)
                    self.check_calm_maps(maps[5], values)
                    for chart in (maps[3], maps[len(maps) // 2]):
                        self.check_all(chart, values)

    def test_all_ways_to_want(self):
        for chart in (CHART, (3, (0, 0, 0, 0, 0, 0, 0, 0, 0, 1)), (4, (0, 0, 0, 0, 0, 0, 1, 0, 2))):
            takings = sorted({taking for some in plain.walk(chart) for taking in plain.all_takings(some)})
            for picked in product((False, True), repeat=len(takings)):
                some = [taking for taking, is_wanted in zip(takings, picked) if is_wanted]
                values = values_that_want(chart, some)
                for one in plain.walk(chart):
                    self.check_all(one, values)

    def test_all_ways_to_want_four_takings(self):
        takings = sorted({taking for some in plain.walk(FULL) for taking in plain.all_takings(some)})
        numbers = plain.Numbers(1)
        for _ in range(150):
            values = values_that_want(FULL, [numbers.pick(takings) for _ in range(2 + numbers.below(9))])
            self.check_calm_maps(FULL, values)
            self.check_all(numbers.pick(sorted(plain.walk(FULL))), values)
        self.assertGreater(max(quickest or 0 for _, _, quickest in self.seen), 3)
        self.assertEqual({goes for goes, many, _ in self.seen if many == 2}, {True, False})

    def test_values_of_only_0(self):
        for chart in plain.every_some_map(1) + [ALONE]:
            for worth in (0, -100):
                values = ((worth,) * len(chart[1]),) * plain.lands_of(chart)
                self.assertEqual((wanted(chart, values), is_calm(chart, values)), ((), True))
                self.assertEqual((goes_calm(chart, values), calm_ends(chart, values)), (True, (chart,)))
                self.assertEqual(quickest_calm(chart, values), 0)
                self.assertEqual(calm_maps(chart, values), tuple(sorted(plain.walk(chart))))

    def test_values_of_only_more_than_0(self):
        for chart in plain.every_some_map(1):
            for worth in (1,):
                values = ((worth,) * len(chart[1]),) * plain.lands_of(chart)
                is_alone = not plain.all_takings(chart)
                self.assertEqual(wanted(chart, values), plain.all_takings(chart))
                self.assertIs(goes_calm(chart, values), is_alone)
                self.assertEqual(calm_ends(chart, values), (chart,) if is_alone else ())
                self.assertEqual(calm_maps(chart, values), (chart,) if is_alone else ())
                self.assertEqual(quickest_calm(chart, values), 0 if is_alone else None)

    def test_a_row_that_never_ends_beside_one_that_does(self):
        chart = (3, (0, 0, 0, 0, 0, 0, 1, 0, 0, 2))
        both_ways = values_that_want(chart, [(1, 5), (0, 5), (2, 8)])
        self.assertEqual((goes_calm(chart, both_ways), calm_ends(chart, both_ways)), (False, ()))
        one_way = values_that_want(chart, [(1, 5), (2, 8)])
        self.assertIs(goes_calm(chart, one_way), True)
        self.assertEqual(calm_ends(chart, one_way), ((3, (0, 0, 0, 0, 0, 1, 1, 0, 2, 2)),))
        self.assertEqual(quickest_calm(chart, one_way), 2)
        # Land 1 can take the hub ahead of the round of takings on the third arm, and ends it.
        values = values_that_want(FULL, [(1, 0), (2, 5), (0, 5), (0, 3)])
        self.assertIs(goes_calm(FULL, values), ends_always(FULL, values))

    def test_a_map_that_can_still_come_to_a_round(self):
        values = values_that_want(WARM, [(1, 3), (2, 0), (0, 5)])
        for one in plain.walk(WARM):
            self.check_all(one, values)
        values = values_that_want(FULL, [(0, 0), (1, 0), (2, 0)])
        self.assertEqual((goes_calm(FULL, values), calm_ends(FULL, values)), (False, ()))
        self.assertIsNone(quickest_calm(FULL, values))

    def test_values_that_are_none(self):
        for values in (None, (), ((0,) * 7,), ((0,) * 7,) * 3, ((0,) * 7, (0,) * 6 + (101,)), ((0,) * 7, [0] * 7)):
            for function in (wanted, is_calm, goes_calm, calm_maps, calm_ends, quickest_calm):
                self.assertRaises(BadValues, function, CHART, values)
                self.assertRaises(BadMap, function, None, values)

    def test_wrong_inputs(self):
        for function in (wanted, is_calm, goes_calm, calm_maps, calm_ends, quickest_calm):
            wrong.check_wrong(self, function, wrong.chart(), wrong.values())


if __name__ == "__main__":
    unittest.main()
