import unittest
from itertools import product

from starlands.errors import BadMap
from starlands.islands import areas, arm_of, cell_count, cells_of, land_count, map_of, touching
from tests import plain, wrong


def taken_for_map(value):
    try:
        land_count(value)
    except BadMap:
        return False
    return True


class IslandsTest(unittest.TestCase):
    def test_document(self):
        warm = (3, (0, 0, 0, 0, 1, 2, 2))
        got = [
            cell_count(3, 2), touching(3, 2, 0), touching(3, 2, 5), land_count(warm), areas(warm), cells_of(warm, 2),
            arm_of(warm, 1), map_of(0, ((1, 0), (0, 0), (0, 0))),
        ]
        self.assertEqual(got, [7, (1, 3, 5), (0, 6), 3, (4, 1, 2), (5, 6), (0, 1), None])

    def test_cells_and_what_they_touch(self):
        for arms, length in plain.ISLANDS:
            self.assertEqual(cell_count(arms, length), arms * length + 1)
            for cell, near in plain.graph(arms, length).items():
                self.assertEqual(touching(arms, length, cell), tuple(near))

    def test_touching_by_hand(self):
        self.assertEqual(touching(4, 4, 0), (1, 5, 9, 13))
        self.assertEqual(touching(4, 4, 16), (15,))
        self.assertEqual(touching(4, 4, 13), (0, 14))
        self.assertEqual(touching(3, 1, 3), (0,))
        self.assertEqual(touching(3, 4, 6), (5, 7))

    def test_just_maps_are_taken_for_maps(self):
        for arms, cells, lands in ((3, 4, 3), (4, 5, 3), (3, 7, 4)):
            found = [(arms, lands_of_cells) for lands_of_cells in product(range(lands), repeat=cells)]
            for chart in found:
                self.assertIs(taken_for_map(chart), plain.is_map(chart), chart)

    def test_maps_near_right_ones(self):
        for chart in plain.every_some_map(6):
            self.assertTrue(taken_for_map(chart))
            arms, cells = chart
            for cell in range(len(cells)):
                for land in range(-1, 7):
                    near = (arms, cells[:cell] + (land,) + cells[cell + 1:])
                    self.assertIs(taken_for_map(near), plain.is_map(near), near)

    def test_most_lands(self):
        for arms, length in plain.ISLANDS:
            most = (arms, (0,) * ((arms - 1) * length + 1) + tuple(range(1, length + 1)))
            self.assertEqual(land_count(most), length + 1)
            more = (arms, (0,) * ((arms - 2) * length) + (length + 1,) * length + most[1][-length - 1:])
            self.assertFalse(taken_for_map(more))
            self.assertFalse(taken_for_map((arms, (0,) * (arms * length + 1))))

    def test_lands_and_cells(self):
        for chart in plain.every_some_map():
            cells = chart[1]
            self.assertEqual(land_count(chart), plain.lands_of(chart))
            for land in range(plain.lands_of(chart)):
                mine = cells_of(chart, land)
                self.assertEqual(mine, tuple(cell for cell in range(len(cells)) if cells[cell] == land))
                self.assertEqual(areas(chart)[land], len(mine))
            self.assertEqual(sum(areas(chart)), len(cells))
            rows = tuple(arm_of(chart, arm) for arm in range(chart[0]))
            self.assertEqual(rows, tuple(plain.rows_of(chart)))
            self.assertEqual(map_of(cells[0], rows), chart)

    def test_map_of_gives_maps_or_none(self):
        for cells in product(range(4), repeat=7):
            chart = (3, cells)
            expected = chart if plain.is_map(chart) else None
            self.assertEqual(map_of(cells[0], (cells[1:3], cells[3:5], cells[5:])), expected)
        self.assertEqual(map_of(0, ((0,), (0,), (0,), (1,))), (4, (0, 0, 0, 0, 1)))
        self.assertIsNone(map_of(4, ((0, 1, 2, 3), (4, 4, 4, 4), (4, 0, 4, 4))))
        self.assertIsNone(map_of(0, ((0,), (0,), (0,))))
        self.assertIsNone(map_of(4, ((0,), (0,), (0,))))
        self.assertIsNone(map_of(0, ((1,), (2,), (0,))))
        self.assertEqual(map_of(4, ((3, 2, 1, 0), (4,) * 4, (4,) * 4)), (3, (4, 3, 2, 1, 0) + (4,) * 8))

    def test_wrong_inputs(self):
        wrong.check_wrong(self, cell_count, wrong.arms(), wrong.length())
        wrong.check_wrong(self, touching, wrong.arms(), wrong.length(), wrong.cell())
        wrong.check_wrong(self, land_count, wrong.chart())
        wrong.check_wrong(self, areas, wrong.chart())
        wrong.check_wrong(self, cells_of, wrong.chart(), wrong.land())
        wrong.check_wrong(self, arm_of, wrong.chart(), wrong.arm())
        wrong.check_wrong(self, map_of, wrong.land(0, 4), wrong.rows())


if __name__ == "__main__":
    unittest.main()
