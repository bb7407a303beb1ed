import unittest

from starlands.worths import best_in_class, best_map, climb, shows_best_in_class, shows_best_map, worth
from tests import plain, wrong

CHART = (3, (0, 0, 0, 0, 0, 0, 1))
VALUES = ((1, 1, 1, 1, 1, 1, 1), (0, 0, 0, 0, 0, 5, 2))
BEST = (12, (3, (0, 0, 0, 0, 0, 1, 1)))

# A climb of many takings.
LONG_CHART = (4, (4, 4, 4, 4, 1, 4, 4, 4, 2, 4, 4, 0, 3, 4, 4, 4, 4))
LONG_VALUES = (
    (70, -86, 95, 26, -9, 31, 50, -91, -41, 2, -53, -74, -85, -46, 43, 91, -49),
    (59, 30, 58, -11, -60, -3, -32, -93, 24, 39, -27, -11, -16, -96, -98, 99, -14),
    (3, -47, 67, -42, -50, 69, 32, -11, -29, 82, -94, -67, 16, 79, -37, -78, 32),
    (78, 79, 61, 38, 50, 87, 36, 42, 50, 6, -27, -32, 2, 97, 64, 32, -36),
    (-44, -13, 47, -61, -79, -29, -28, -49, -12, -83, -77, 94, -24, -76, -79, -49, 96),
)


def values_for(chart, seed, most=100):
    return plain.some_values(plain.lands_of(chart), len(chart[1]), seed, most)


def climb_by_trying(chart, values):
    row = []
    while len(row) < 40:
        ahead = [(-plain.sum_worth(plain.behind(chart, taking), values), taking) for taking in plain.all_takings(chart)]
        if not ahead or -min(ahead)[0] <= plain.sum_worth(chart, values):
            break
        row.append(min(ahead)[1])
        chart = plain.behind(chart, row[-1])
    return tuple(row)


class WorthsTest(unittest.TestCase):
    def test_document(self):
        got = [
            worth(CHART, VALUES), best_in_class(CHART, VALUES), climb(CHART, VALUES),
            shows_best_map(3, 2, VALUES, BEST),
        ]
        self.assertEqual(got, [8, BEST, ((1, 5),), True])

    def test_worth(self):
        for seed, chart in enumerate(plain.every_some_map()):
            values = values_for(chart, seed)
            self.assertEqual(worth(chart, values), plain.sum_worth(chart, values))
            for value in (-100, 0, 100):
                flat = ((value,) * len(chart[1]),) * plain.lands_of(chart)
                self.assertEqual(worth(chart, flat), value * len(chart[1]))

    def test_best_in_class_by_walking(self):
        for seed, chart in enumerate(plain.every_some_map(3)):
            for most in (1, 100):
                values = values_for(chart, seed, most)
                maps = plain.walk(chart)
                best = max(plain.sum_worth(some, values) for some in maps)
                got, there = best_in_class(chart, values)
                self.assertEqual(got, best)
                self.assertIn(there, maps)
                self.assertEqual(plain.sum_worth(there, values), best)
                for some in list(maps)[::max(1, len(maps) // 9)] + [there]:
                    is_best = plain.sum_worth(some, values) == best
                    self.assertIs(shows_best_in_class(chart, values, (best, some)), is_best)
                    self.assertIs(shows_best_in_class(chart, values, (plain.sum_worth(some, values), some)), is_best)
                    self.assertIs(shows_best_in_class(chart, values, (best + 1, some)), False)

    def test_best_map_of_all(self):
        for size in plain.SIZES:
            arms, length, lands = size
            maps = plain.all_maps(*size)
            for seed, most in ((1, 100), (2, 1), (3, 7)) if len(maps) < 10000 else ((4, 100),):
                values = plain.some_values(lands, arms * length + 1, seed, most)
                worths = [plain.sum_worth(some, values) for some in maps]
                best = max(worths)
                got, there = best_map(arms, length, values)
                self.assertEqual(got, best)
                self.assertTrue(plain.is_map(there))
                self.assertEqual(plain.size_of(there), size)
                self.assertEqual(plain.sum_worth(there, values), best)
                for some, value in list(zip(maps, worths))[::max(1, len(maps) // 20)] + [(there, best)]:
                    self.assertIs(shows_best_map(arms, length, values, (value, some)), value == best)
                    self.assertIs(shows_best_map(arms, length, values, (best, some)), value == best)

    def test_all_best_maps_are_shown(self):
        flat = ((3,) * 7,) * 3
        for some in plain.all_maps(3, 2, 3):
            self.assertIs(shows_best_map(3, 2, flat, (21, some)), True)
            self.assertIs(shows_best_map(3, 2, flat, (20, some)), False)
            same = some in plain.walk(wrong.MAP)
            self.assertIs(shows_best_in_class(wrong.MAP, flat, (21, some)), same)

    def test_values_at_their_ends(self):
        for value in (-100, 100):
            flat = ((value,) * 17,) * 5
            got, there = best_map(4, 4, flat)
            self.assertEqual(got, 17 * value)
            self.assertIs(shows_best_map(4, 4, flat, (got, there)), True)
        mixed = ((100,) * 17,) + ((-100,) * 17,) * 4
        self.assertEqual(best_map(4, 4, mixed)[0], 13 * 100 - 4 * 100)
        self.assertEqual(best_map(4, 4, mixed[:2])[0], 16 * 100 - 100)

    def test_shows_best_in_class(self):
        cells = BEST[1][1]
        nears = [
            (12, CHART), (8, CHART), (11, BEST[1]), (13, BEST[1]), [12, BEST[1]], (12, list(BEST[1])),
            (12, (3, list(cells))),
            (12, (3, cells[:-1] + (True,))), (12, (3, (False,) + cells[1:])), ("12", BEST[1]), (None, BEST[1]),
            BEST + (0,),
            (BEST[1], 12), BEST[1], 12, (12, None), (12, cells), (12, (4, (0,) * 8 + (1,))),
            (12, (3, (1, 1, 1, 1, 1, 0, 0))),
            (12, (3, (0, 0, 0, 1, 1, 0, 0))), {12: BEST[1]}, ((12,), BEST[1]), (12, (3, cells, 0)),
        ]
        wrong.check_shows(self, shows_best_in_class, (CHART, VALUES), [BEST], nears)
        ones = ((1,) * 4, (0, 0, 0, 0))
        wrong.check_shows(self, shows_best_in_class, ((3, (1, 1, 1, 0)), ones), [(1, (3, (1, 1, 1, 0)))], [
            (True, (3, (1, 1, 1, 0))), (1, (3, (True, True, True, 0))), (1, (3, (1, 1, 0, 1))),
        ])

    def test_shows_best_map(self):
        cells = BEST[1][1]
        nears = [
            (12, CHART), (8, CHART), (11, BEST[1]), (13, BEST[1]), [12, BEST[1]], (12, [3, cells]),
            (12, (3, list(cells))),
            (12, (3, cells[:-1] + (True,))), ("12", BEST[1]), (None, BEST[1]), BEST + (0,), BEST[1], (12, None),
            (12, cells),
            (12, (3, (0, 0, 0, 0, 1, 2, 2))), (12, (3, (0,) * 9 + (1,))), (12, (4, (0,) * 8 + (1,))), {},
            (12, (3, (0, 0, 0, 0, 0, 0, 0))),
        ]
        wrong.check_shows(self, shows_best_map, (3, 2, VALUES), [BEST], nears)
        ones = ((1, 0, 0, 0), (0,) * 4)
        rights = [(1, some) for some in plain.all_maps(3, 1, 2) if some[1][0] == 0]
        wrong.check_shows(self, shows_best_map, (3, 1, ones), rights, [(True, some) for _, some in rights])

    def test_climb_by_trying(self):
        for seed, chart in enumerate(plain.every_some_map(8)):
            for most in (1, 3, 100):
                values = values_for(chart, seed, most)
                self.assertEqual(climb(chart, values), climb_by_trying(chart, values))

    def test_long_climb(self):
        row = climb(LONG_CHART, LONG_VALUES)
        self.assertEqual(row, climb_by_trying(LONG_CHART, LONG_VALUES))
        self.assertEqual(len(row), 24)

    def test_climb_where_the_worth_does_not_grow(self):
        for chart in plain.every_some_map(4):
            for value in (-100, 0, 100):
                self.assertEqual(climb(chart, ((value,) * len(chart[1]),) * plain.lands_of(chart)), ())
        self.assertEqual(climb(CHART, ((0,) * 7, (0, 0, 0, 0, 0, -1, 0))), ())
        self.assertEqual(climb(CHART, ((0,) * 7, (0, 0, 0, 0, 0, 1, 0))), ((1, 5),))

    def test_climb_where_several_takings_are_as_good(self):
        chart = (3, (0, 0, 0, 0, 0, 0, 1, 0, 0, 2))
        values = ((0,) * 10, (0, 0, 0, 0, 0, 7, 0, 0, 0, 0), (0, 0, 0, 0, 0, 0, 0, 0, 7, 0))
        self.assertEqual(climb(chart, values), ((1, 5), (2, 8)))
        better = (values[0], values[1], (0, 0, 0, 0, 0, 0, 0, 0, 8, 0))
        self.assertEqual(climb(chart, better), ((2, 8), (1, 5)))

    def test_wrong_inputs(self):
        wrong.check_wrong(self, worth, wrong.chart(), wrong.values())
        wrong.check_wrong(self, best_in_class, wrong.chart(), wrong.values())
        wrong.check_wrong(self, climb, wrong.chart(), wrong.values())
        wrong.check_wrong(self, best_map, wrong.arms(), wrong.length(), wrong.map_values())
        edge = ((-100,) * 7, (100,) * 7, (0,) * 7)
        wrong.check_wrong(self, worth, wrong.chart(), wrong.values(edge))

    def test_wrong_inputs_before_a_value_to_show(self):
        for value in (None, BEST, "x"):
            def shown_in_class(chart, values, last=value):
                return shows_best_in_class(chart, values, last)

            def shown_of_all(arms, length, values, last=value):
                return shows_best_map(arms, length, values, last)
            wrong.check_wrong(self, shown_in_class, wrong.chart(), wrong.values())
            wrong.check_wrong(self, shown_of_all, wrong.arms(), wrong.length(), wrong.map_values())


if __name__ == "__main__":
    unittest.main()
