import unittest
from itertools import combinations

from starlands.errors import BadCells, BadMap
from starlands.fixed import fixed_distance, fixed_maps, free_cells
from starlands.ways import distance
from tests import plain, wrong

CHART = (3, (0, 0, 0, 0, 0, 0, 1))
THERE = (3, (0, 0, 0, 0, 0, 1, 1))
WARM = (3, (0, 0, 0, 0, 1, 2, 2))
FULL = (3, (0, 0, 0, 1, 1, 2, 2))
ALONE = (3, (0, 0, 0, 1))
OTHERS = ((3, (0, 0, 0, 0, 0, 1, 2)), (3, (1, 1, 1, 1, 0, 2, 2)), (3, (0, 0, 0, 2, 2, 1, 1)))


def walk_with(chart, cells):
    return plain.walk_by(chart, lambda some: [taking for taking in plain.all_takings(some) if taking[1] not in cells])


def some_cells(many, seed):
    numbers = plain.Numbers(seed)
    for share in (1, 2, 5):
        yield tuple(cell for cell in range(many) if numbers.below(10) < share)


class FixedTest(unittest.TestCase):
    def test_document(self):
        got = [fixed_maps(CHART, (5,)), fixed_distance(CHART, THERE, (5,)), free_cells(CHART)]
        self.assertEqual(got, [(CHART,), None, (5,)])

    def check_cells(self, chart, cells, maps):
        steps = walk_with(chart, cells)
        self.assertEqual(fixed_maps(chart, cells), tuple(sorted(steps)))
        for other in maps:
            self.assertEqual(fixed_distance(chart, other, cells), steps.get(other))

    def test_all_fixed_cells_of_a_class(self):
        for chart in (WARM, FULL, CHART, (4, (0, 0, 0, 1, 2, 0, 0, 0, 0))):
            maps = sorted(plain.walk(chart))
            for many in range(len(chart[1]) + 1):
                for cells in combinations(range(len(chart[1])), many):
                    self.check_cells(chart, cells, maps[::3])

    def test_all_pairs_of_a_class(self):
        maps = sorted(plain.walk(FULL))
        for cells in ((0,), (3,), (1, 5), (2, 4, 6)):
            for chart in maps:
                self.check_cells(chart, cells, maps)

    def test_other_maps(self):
        seen = set()
        for at, chart in enumerate(plain.every_some_map(1)):
            maps = sorted(plain.walk(chart))
            for cells in some_cells(len(chart[1]), at):
                self.check_cells(chart, cells, maps[::len(maps) // 4 + 1])
                many = len(walk_with(chart, cells))
                seen.add(0 if many == 1 else 1 if many == len(maps) else 2)
        self.assertEqual(seen, {0, 1, 2})

    def test_two_fixed_cells(self):
        for chart in plain.greatest_class(3, 3, 4)[::27]:
            maps = sorted(plain.walk(chart))
            for cells in combinations(range(10), 2):
                self.check_cells(chart, cells, maps[::20])

    def test_no_fixed_cell(self):
        for chart in plain.every_some_map(1) + [ALONE]:
            maps = sorted(plain.walk(chart))
            self.assertEqual(fixed_maps(chart, ()), tuple(maps))
            for other in maps[::len(maps) // 3 + 1]:
                self.assertEqual(fixed_distance(chart, other, ()), distance(chart, other))

    def test_all_cells_fixed(self):
        for chart in plain.every_some_map(1) + [ALONE]:
            cells = tuple(range(len(chart[1])))
            self.assertEqual(fixed_maps(chart, cells), (chart,))
            for other in sorted(plain.walk(chart))[:3] + [chart]:
                self.assertEqual(fixed_distance(chart, other, cells), 0 if other == chart else None)

    def test_the_hub_fixed(self):
        for chart in plain.every_some_map(1):
            told = (chart[1][0], plain.order_of(chart)[0])
            maps = [some for some in plain.walk(chart) if (some[1][0], plain.order_of(some)[0]) == told]
            self.assertEqual(fixed_maps(chart, (0,)), tuple(sorted(maps)))

    def test_free_cells(self):
        for maps in plain.classes_up_to(2000):
            free = [cell for cell in range(len(maps[0][1])) if len({some[1][cell] for some in maps}) > 1]
            self.assertEqual(free_cells(maps[-1]), tuple(free))
            if not plain.frozen(maps[0]):
                length = plain.length_of(maps[0])
                outermost = [length * (arm + 1) for arm in range(maps[0][0])]
                self.assertEqual(free, [cell for cell in range(len(maps[0][1])) if cell not in outermost])
        self.assertEqual(free_cells(ALONE), ())

    def test_unlike_classes_and_islands(self):
        for other in OTHERS:
            for cells in ((), (0,), (6,)):
                self.assertIsNone(fixed_distance(WARM, other, cells))
                self.assertIsNone(fixed_distance(other, WARM, cells))
        for one, other in plain.unlike_pairs():
            self.assertRaises(BadMap, fixed_distance, one, other, ())

    def test_cells_that_are_none(self):
        wrong_cells = [
            (7,), (-1,), (0, 0), (1, 0), (0, 2, 1), [0], (True,), (0, True), ("0",), (None,), ((0,),), None, 0, "0",
            {0: 0}, (0, 1, 2, 3, 4, 5, 6, 7), (0, 10 ** 30),
        ]
        for cells in wrong_cells:
            self.assertRaises(BadCells, fixed_maps, CHART, cells)
            self.assertRaises(BadCells, fixed_distance, CHART, THERE, cells)
            self.assertRaises(BadMap, fixed_maps, None, cells)
            self.assertRaises(BadMap, fixed_distance, CHART, WARM, cells)
        self.assertEqual(fixed_maps(CHART, (6,)), (CHART, THERE))

    def test_wrong_inputs(self):
        wrong.check_wrong(self, fixed_maps, wrong.chart(), wrong.cells())
        wrong.check_wrong(self, fixed_distance, wrong.chart(), wrong.like_chart(), wrong.cells())
        wrong.check_wrong(self, free_cells, wrong.chart())


if __name__ == "__main__":
    unittest.main()
