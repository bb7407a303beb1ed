import unittest

from starlands.touch import always_touch, area_ranges, border_moves, ever_touch, line
from tests import plain, wrong

WARM = (3, (0, 0, 0, 0, 1, 2, 2))


def path_of_cells(chart, start, goal):
    """The cells on the way from one cell to another."""
    near = plain.graph_of(chart)
    paths = [[start]]
    for path in paths:
        if path[-1] == goal:
            return path
        paths.extend(path + [cell] for cell in near[path[-1]] if cell not in path)


class TouchTest(unittest.TestCase):
    def test_document(self):
        got = [
            area_ranges((3, (0, 0, 0, 0, 0, 0, 1))), ever_touch(WARM), always_touch(WARM), line(WARM, 1, 2),
            border_moves(WARM),
        ]
        self.assertEqual(got, [
            ((5, 6), (1, 2)), ((0, 1), (0, 2), (1, 2)), (), (1, 0, 2), (((0, 5), 1), ((3, 4), 1)),
        ])

    def test_classes_by_walking(self):
        for chart in plain.every_some_map(2):
            maps = list(plain.walk(chart))
            ranges = []
            for land in range(plain.lands_of(chart)):
                sizes = [some[1].count(land) for some in maps]
                ranges.append((min(sizes), max(sizes)))
            self.assertEqual(area_ranges(chart), tuple(ranges))
            pairs = [set(plain.touching_pairs(some)) for some in maps]
            self.assertEqual(ever_touch(chart), tuple(sorted(set.union(*pairs))))
            self.assertEqual(always_touch(chart), tuple(sorted(set.intersection(*pairs))))

    def test_frozen_maps_keep_their_pairs(self):
        chart = (3, (0, 0, 0, 0, 0, 0, 0, 0, 2, 1))
        self.assertEqual(ever_touch(chart), ((0, 2), (1, 2)))
        self.assertEqual(always_touch(chart), ((0, 2), (1, 2)))
        self.assertEqual(area_ranges(chart), ((7, 8), (1, 2), (1, 2)))

    def test_line(self):
        for chart in plain.every_some_map(4):
            for one in range(plain.lands_of(chart)):
                for other in range(plain.lands_of(chart)):
                    path = path_of_cells(chart, chart[1].index(one), chart[1].index(other))
                    met = []
                    for cell in path:
                        if chart[1][cell] not in met:
                            met.append(chart[1][cell])
                    self.assertEqual(line(chart, one, other), tuple(met))

    def test_line_by_hand(self):
        chart = (4, (4, 4, 0, 0, 0, 4, 1, 1, 2, 4, 4, 4, 4, 3, 3, 3, 3))
        self.assertEqual(line(chart, 2, 3), (2, 1, 4, 3))
        self.assertEqual(line(chart, 3, 2), (3, 4, 1, 2))
        self.assertEqual(line(chart, 4, 4), (4,))

    def test_border_moves(self):
        for chart in plain.every_some_map():
            moves = border_moves(chart)
            self.assertEqual(tuple(border for border, _ in moves), tuple(plain.cuts(chart)))
            for (inner, outer), many in moves:
                cells = chart[1]
                outward = plain.can(chart, (cells[inner], outer))
                inward = plain.can(chart, (cells[outer], inner))
                self.assertEqual(many, outward + inward)
            self.assertEqual(sum(many for _, many in moves), len(plain.all_takings(chart)))

    def test_wrong_inputs(self):
        for function in (area_ranges, ever_touch, always_touch, border_moves):
            wrong.check_wrong(self, function, wrong.chart())
        wrong.check_wrong(self, line, wrong.chart(), wrong.land(), wrong.land(2))


if __name__ == "__main__":
    unittest.main()
