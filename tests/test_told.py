import unittest
from fractions import Fraction

from starlands.errors import BadArms, BadLands, BadTold, TooMany
from starlands.told import class_fitting, fit_count, fitting, nearest_fitting, sure_cells, told_chances
from tests import plain, wrong

CHART = (3, (0, 0, 0, 0, 0, 0, 1))
ALONE = (3, (0, 0, 0, 1))
SMALL = [size for size in plain.SIZES if size[0] * size[1] < 10]
GREAT = [size for size in plain.SIZES if size not in SMALL]


def fit(chart, told):
    return all(chart[1][cell] == land for cell, land in told)


def some_told(size, numbers):
    """Told cells: of a map, some of them, or lands that come as they may."""
    arms, length, lands = size
    cells = range(arms * length + 1)
    chart = numbers.pick(plain.all_maps(*size))
    yield tuple((cell, chart[1][cell]) for cell in cells)
    for many in (1, 2, 3, len(cells) - 1):
        picked = sorted({numbers.below(len(cells)) for _ in range(many)})
        yield tuple((cell, chart[1][cell]) for cell in picked)
        yield tuple((cell, numbers.below(lands)) for cell in picked)
    yield tuple((cell, numbers.below(lands)) for cell in cells)
    yield ()


def every_told(sizes, many):
    for size in sizes:
        numbers = plain.Numbers(len(size) + sum(size))
        for _ in range(many):
            for told in some_told(size, numbers):
                yield size, told


def chances_of(maps, lands):
    if not maps:
        return None
    counts = [sum(chart[1][0] == land for chart in maps) for land in range(lands)]
    shares = [Fraction(count, len(maps)) for count in counts]
    return tuple((share.numerator, share.denominator) for share in shares)


def sure_of(maps, cells):
    sure = []
    for cell in range(cells):
        there = {chart[1][cell] for chart in maps}
        sure.append(there.pop() if len(there) == 1 else None)
    return tuple(sure)


class ToldTest(unittest.TestCase):
    def test_document(self):
        got = [
            len(fitting(3, 2, 2, ())), fit_count(3, 2, 2, ((0, 0),)), sure_cells(3, 2, 2, ((0, 0), (6, 1))),
            told_chances(3, 2, 2, ((1, 0),)), class_fitting(CHART, ((5, 1),)), nearest_fitting(CHART, ((0, 1),)),
        ]
        self.assertEqual(got, [
            12, 6, (0, 0, 0, 0, 0, None, 1), ((5, 6), (1, 6)), ((3, (0, 0, 0, 0, 0, 1, 1)),), None,
        ])

    def test_small_islands_by_all_maps(self):
        seen = set()
        for size, told in every_told(SMALL, 6):
            maps = tuple(chart for chart in plain.all_maps(*size) if fit(chart, told))
            self.assertEqual(fitting(*size, told), maps)
            self.assertEqual(fit_count(*size, told), len(maps))
            self.assertEqual(sure_cells(*size, told), sure_of(maps, size[0] * size[1] + 1))
            self.assertEqual(told_chances(*size, told), chances_of(maps, size[2]))
            seen.add(min(len(maps), 2))
        self.assertEqual(seen, {0, 1, 2})

    def test_great_islands_by_all_maps(self):
        seen = set()
        for size, told in every_told(GREAT, 1):
            maps = [chart for chart in plain.all_maps(*size) if fit(chart, told)]
            self.assertEqual(fit_count(*size, told), len(maps))
            self.assertEqual(told_chances(*size, told), chances_of(maps, size[2]))
            seen.add(min(len(maps), 2))
        self.assertEqual(seen, {0, 1, 2})

    def test_single_told_cells(self):
        for size in SMALL:
            for cell in range(size[0] * size[1] + 1):
                for land in range(size[2]):
                    maps = tuple(chart for chart in plain.all_maps(*size) if chart[1][cell] == land)
                    self.assertEqual(fitting(*size, ((cell, land),)), maps)
                    self.assertEqual(fit_count(*size, ((cell, land),)), len(maps))

    def test_no_told_cells(self):
        for size in plain.SIZES:
            self.assertEqual(fit_count(*size, ()), len(plain.all_maps(*size)))
            self.assertEqual(told_chances(*size, ()), chances_of(plain.all_maps(*size), size[2]))
        for size in SMALL:
            self.assertEqual(fitting(*size, ()), plain.all_maps(*size))
            self.assertEqual(sure_cells(*size, ()), (None,) * (size[0] * size[1] + 1))

    def test_all_cells_told(self):
        for chart in plain.every_some_map(4):
            size = plain.size_of(chart)
            told = tuple(enumerate(chart[1]))
            self.assertEqual(fit_count(*size, told), 1)
            self.assertEqual(told_chances(*size, told), chances_of([chart], size[2]))
            self.assertEqual(class_fitting(chart, told), (chart,))
            self.assertEqual(nearest_fitting(chart, told), chart)
            if size in SMALL:
                self.assertEqual(fitting(*size, told), (chart,))
                self.assertEqual(sure_cells(*size, told), chart[1])

    def test_told_cells_that_no_map_fits(self):
        told = ((0, 0), (1, 1), (2, 0))
        self.assertEqual((fitting(3, 2, 3, told), fit_count(3, 2, 3, told)), ((), 0))
        self.assertEqual(sure_cells(3, 2, 3, told), (None,) * 7)
        self.assertIsNone(told_chances(3, 2, 3, told))
        chart = (3, (0, 0, 0, 0, 1, 2, 2))
        self.assertEqual(class_fitting(chart, told), ())
        self.assertIsNone(nearest_fitting(chart, told))
        whole = tuple((cell, 0) for cell in range(17))
        self.assertEqual((fit_count(4, 4, 5, whole), told_chances(4, 4, 5, whole)), (0, None))

    def test_class_fitting_and_nearest_by_walking(self):
        seen = set()
        for chart in plain.every_some_map(3):
            numbers = plain.Numbers(sum(chart[1]))
            steps = plain.walk(chart)
            told_ones = list(some_told(plain.size_of(chart), numbers))
            other = numbers.pick(sorted(steps))
            told_ones.append(tuple((cell, other[1][cell]) for cell in sorted({numbers.below(4), numbers.below(3)})))
            for told in told_ones:
                maps = sorted(there for there in steps if fit(there, told))
                self.assertEqual(class_fitting(chart, told), tuple(maps))
                nearest = min(maps, key=lambda there: (steps[there], there)) if maps else None
                self.assertEqual(nearest_fitting(chart, told), nearest)
                if maps:
                    seen.add(sum(steps[there] == steps[nearest] for there in maps) > 1)
        self.assertEqual(seen, {True, False})

    def test_nearest_of_all_single_cells(self):
        chart = (3, (0, 0, 0, 0, 1, 2, 2))
        steps = plain.walk(chart)
        for cell in range(7):
            for land in range(3):
                maps = [there for there in steps if there[1][cell] == land]
                nearest = min(maps, key=lambda there: (steps[there], there)) if maps else None
                self.assertEqual(nearest_fitting(chart, ((cell, land),)), nearest)

    def test_a_class_of_one_map(self):
        self.assertEqual(nearest_fitting(ALONE, ()), ALONE)
        self.assertEqual(class_fitting(ALONE, ((3, 1),)), (ALONE,))
        self.assertEqual(class_fitting(ALONE, ((3, 0),)), ())
        self.assertIsNone(nearest_fitting(ALONE, ((3, 0),)))

    def test_islands_of_10_cells_and_of_more(self):
        self.assertEqual(len(fitting(3, 3, 4, ())), 2016)
        self.assertEqual(len(sure_cells(3, 3, 4, ())), 10)
        self.assertEqual(len(fitting(4, 2, 3, ())), 168)
        for arms, length in ((3, 4), (4, 3), (4, 4)):
            for lands in range(2, length + 2):
                for told in ((), ((0, 0),), ((0, 0), (1, 1), (2, 0))):
                    for function in (fitting, sure_cells):
                        with self.assertRaises(TooMany) as caught:
                            function(arms, length, lands, told)
                        self.assertEqual(caught.exception.most, 10)

    def test_too_many_comes_after_all_others(self):
        for function in (fitting, sure_cells):
            for told, index in ((None, None), ([], None), (((13, 0),), 0), (((0, 0), (0, 1)), 1), (((0, 5),), 0)):
                with self.assertRaises(BadTold) as caught:
                    function(4, 3, 4, told)
                self.assertEqual(caught.exception.index, index)
            self.assertRaises(BadLands, function, 4, 3, 5, ())
            self.assertRaises(BadArms, function, 5, 4, 2, ())

    def test_cells_and_lands_of_the_island(self):
        self.assertEqual(fit_count(4, 4, 5, ((16, 4),)), fit_count(4, 4, 5, ((4, 0),)))
        for island, told in (((4, 4, 5), ((17, 4),)), ((4, 4, 4), ((16, 4),)), ((3, 4, 4), ((13, 0),))):
            for function in (fitting, fit_count, sure_cells, told_chances):
                with self.assertRaises(BadTold) as caught:
                    function(*island, told)
                self.assertEqual(caught.exception.index, 0)

    def test_wrong_inputs(self):
        for function in (fitting, fit_count, sure_cells, told_chances):
            wrong.check_wrong(self, function, wrong.arms(), wrong.length(), wrong.lands(), wrong.told())
        for function in (class_fitting, nearest_fitting):
            wrong.check_wrong(self, function, wrong.chart(), wrong.told())


if __name__ == "__main__":
    unittest.main()
