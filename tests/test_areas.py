import unittest

from starlands.areas import area_count, area_distance, area_lists, area_maps, area_shares
from starlands.chances import hub_shares, long_share, mean_areas
from starlands.classes import map_count
from starlands.errors import BadAreas, BadLand, BadMap
from starlands.touch import area_ranges
from tests import plain, wrong

CHART = (3, (0, 0, 0, 0, 0, 0, 1))
THERE = (3, (0, 0, 0, 0, 0, 1, 1))
WARM = (3, (0, 0, 0, 0, 1, 2, 2))
ALONE = (3, (0, 0, 0, 1))


def area_rows(chart):
    return sorted({plain.area_row(some) for some in plain.walk(chart)})


def all_areas(lands, cells):
    """All tuples of areas of so many lands with this sum."""
    if lands == 1:
        yield (cells,)
    else:
        for first in range(1, cells - lands + 2):
            for rest in all_areas(lands - 1, cells - first):
                yield (first,) + rest


def shares_of(chart, land):
    """The shares of time by the long shares of the maps."""
    maps = plain.walk(chart)
    shares = [0] * (max(some[1].count(land) for some in maps) + 1)
    for some in maps:
        shares[some[1].count(land)] += plain.Fraction(*long_share(some))
    return tuple(map(plain.ratio, shares))


def shares_by_takings(chart, land):
    """The shares of time by the numbers of takings."""
    maps = plain.walk(chart)
    if len(maps) == 1:
        return ((0, 1),) * chart[1].count(land) + ((1, 1),)
    shares = [0] * (max(some[1].count(land) for some in maps) + 1)
    for some in maps:
        shares[some[1].count(land)] += len(plain.all_takings(some))
    return tuple(plain.ratio(share, sum(shares)) for share in shares)


class AreasTest(unittest.TestCase):
    def test_document(self):
        got = [
            area_lists(CHART), area_maps(CHART, (5, 2)), area_distance(CHART, (5, 2)), area_count(3, 2, (6, 1)),
            area_shares(CHART, 1),
        ]
        self.assertEqual(got, [((5, 2), (6, 1)), (THERE,), 1, 3, ((0, 1), (1, 2), (1, 2))])

    def check_class(self, chart, step=1):
        maps = plain.walk(chart)
        rows = area_rows(chart)
        self.assertEqual(area_lists(chart), tuple(rows))
        for areas in rows[::step]:
            found = sorted(some for some in maps if plain.area_row(some) == areas)
            self.assertEqual(area_maps(chart, areas), tuple(found))
            self.assertEqual(area_distance(chart, areas), min(maps[some] for some in found))

    def test_small_classes(self):
        for maps in plain.classes_up_to(30):
            for chart in maps[::6] + maps[-1:]:
                self.check_class(chart)

    def test_other_maps(self):
        for chart in plain.every_some_map(1):
            self.check_class(chart, max(1, len(area_rows(chart)) // 8))

    def test_areas_that_no_map_has(self):
        for chart in plain.every_some_map(1)[::3] + [ALONE]:
            cells = len(chart[1])
            lands = plain.lands_of(chart)
            rows = area_rows(chart)
            others = [areas for areas in all_areas(lands, cells) if areas not in rows]
            sums = list(all_areas(lands, cells - 1)) + list(all_areas(lands, cells + 1))
            fit = [areas for areas in sums if max(areas) <= 17]
            picked = others[::len(others) // 3 + 1] + fit[::len(fit) // 3 + 1]
            for areas in picked + [(17,) * lands, (1,) * lands]:
                if areas not in rows:
                    self.assertEqual((area_maps(chart, areas), area_distance(chart, areas)), ((), None))

    def test_lists_and_ranges(self):
        for chart in plain.every_some_map(1):
            columns = zip(*area_lists(chart))
            self.assertEqual(area_ranges(chart), tuple((min(column), max(column)) for column in columns))

    def test_counts_of_all_maps(self):
        for size in plain.SIZES:
            arms, length, lands = size
            if map_count(*size) > 40000:
                continue
            counts = {}
            for chart in plain.all_maps(*size):
                areas = plain.area_row(chart)
                counts[areas] = counts.get(areas, 0) + 1
            for areas in all_areas(lands, arms * length + 1):
                self.assertEqual(area_count(arms, length, areas), counts.get(areas, 0), (size, areas))

    def test_counts_on_the_greatest_islands(self):
        for size in ((3, 4, 5), (4, 4, 4), (4, 4, 5)):
            arms, length, lands = size
            total = sum(area_count(arms, length, areas) for areas in all_areas(lands, arms * length + 1))
            self.assertEqual(total, map_count(*size))

    def test_counts_with_the_sum_of_the_cells_and_with_others(self):
        self.assertEqual([area_count(3, 2, areas) for areas in ((5, 2), (4, 3), (1, 6), (3, 4))], [3, 0, 3, 0])
        self.assertEqual(area_count(3, 1, (1, 3)), 3)
        for areas in ((5, 1), (5, 3), (7,), (3, 2, 1), (1, 2, 5), (2, 1, 2, 2), (7, 0), (-1, 8), (1, 1), (17, 17)):
            self.assertRaises(BadAreas, area_count, 3, 2, areas)
        for arms, length in plain.ISLANDS:
            cells = arms * length + 1
            for lands in range(1, length + 4):
                areas = (1,) * (lands - 1) + (cells - lands + 1,)
                if 2 <= lands <= length + 1:
                    area_count(arms, length, areas)
                    self.assertRaises(BadAreas, area_count, arms, length, areas[:-1] + (areas[-1] + 1,))
                    self.assertRaises(BadAreas, area_count, arms, length, list(areas))
                else:
                    self.assertRaises(BadAreas, area_count, arms, length, areas)

    def test_areas_from_1_to_17(self):
        wrong_areas = [(0, 1), (18, 1), (1, 18), (1, 0), (1, -1), (True, 1), (1,), (1, 1, 1), (1, None), (1, "1")]
        for areas in wrong_areas + [[1, 1]]:
            self.assertRaises(BadAreas, area_maps, CHART, areas)
            self.assertRaises(BadAreas, area_distance, CHART, areas)
        self.assertEqual((area_maps(CHART, (17, 17)), area_distance(CHART, (17, 1))), ((), None))
        self.assertEqual(area_count(4, 4, (16, 1)), 4)
        self.assertEqual(area_maps((4, (0,) * 16 + (1,)), (16, 1)), ((4, (0,) * 16 + (1,)),))

    def test_shares_by_long_shares(self):
        for maps in plain.classes_up_to(48):
            for chart in (maps[-1],):
                for land in range(plain.lands_of(chart)):
                    self.assertEqual(area_shares(chart, land), shares_of(chart, land))

    def test_shares_by_takings(self):
        for chart in plain.every_some_map(2):
            for land in range(plain.lands_of(chart)):
                shares = area_shares(chart, land)
                self.assertEqual(shares, shares_by_takings(chart, land))
                self.assertGreater(shares[-1][0], 0)
                self.assertEqual(sum(plain.Fraction(*share) for share in shares), 1)
                mean = sum(at * plain.Fraction(*share) for at, share in enumerate(shares))
                self.assertEqual(plain.ratio(mean), mean_areas(chart)[land])

    def test_a_class_of_one_map(self):
        self.assertEqual((area_lists(ALONE), area_maps(ALONE, (3, 1))), (((3, 1),), (ALONE,)))
        self.assertEqual((area_distance(ALONE, (3, 1)), area_distance(ALONE, (2, 2))), (0, None))
        self.assertEqual(area_shares(ALONE, 0), ((0, 1), (0, 1), (0, 1), (1, 1)))
        self.assertEqual(area_shares(ALONE, 1), ((0, 1), (1, 1)))
        self.assertEqual(hub_shares(ALONE), ((1, 1), (0, 1)))

    def test_lands_that_are_none(self):
        for land in (2, -1, True, None, "0", (0,), [0], {}):
            self.assertRaises(BadLand, area_shares, CHART, land)
            self.assertRaises(BadMap, area_shares, None, land)

    def test_wrong_inputs(self):
        wrong.check_wrong(self, area_lists, wrong.chart())
        for function in (area_maps, area_distance):
            wrong.check_wrong(self, function, wrong.chart(), wrong.areas())
        for areas in ((4, 1, 2), (5, 2)):
            wrong.check_wrong(self, area_count, wrong.arms(), wrong.length(), wrong.areas(areas, True))
        wrong.check_wrong(self, area_shares, wrong.chart(), wrong.land())


if __name__ == "__main__":
    unittest.main()
