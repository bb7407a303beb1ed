import unittest

from starlands.errors import BadRow, NotMade
from starlands.takings import can_take, done, taken_back, takings, traced
from tests import plain, wrong

CHART = (3, (0, 0, 0, 0, 0, 0, 1))
BACK_AND_FORTH = ((1, 5), (0, 5)) * 20


class TakingsTest(unittest.TestCase):
    def test_document(self):
        got = [
            takings(CHART), takings((3, (0, 0, 0, 0, 1, 2, 2))), can_take(CHART, (0, 6)), done(CHART, ((1, 5),)),
            taken_back(CHART, (1, 5)),
        ]
        self.assertEqual(got, [((1, 5),), ((0, 5), (1, 3)), False, (3, (0, 0, 0, 0, 0, 1, 1)), (0, 5)])

    def check_map(self, chart):
        ready = plain.all_takings(chart)
        self.assertEqual(takings(chart), ready)
        for land in range(plain.lands_of(chart)):
            for cell in range(len(chart[1])):
                taking = (land, cell)
                self.assertIs(can_take(chart, taking), taking in ready)
                if taking in ready:
                    ahead = plain.behind(chart, taking)
                    self.assertEqual(done(chart, (taking,)), ahead)
                    self.assertEqual(taken_back(chart, taking), (chart[1][cell], cell))
                    self.assertEqual(done(chart, (taking, taken_back(chart, taking))), chart)
                else:
                    self.assertRaises(NotMade, taken_back, chart, taking)
                    self.check_bad_row(chart, (taking,), 0)

    def test_all_small_maps(self):
        for size in plain.SMALL_SIZES:
            for chart in plain.all_maps(*size):
                self.check_map(chart)

    def test_some_maps_of_all_sizes(self):
        for chart in plain.every_some_map():
            self.check_map(chart)

    def test_loser_gone_or_in_pieces(self):
        self.assertFalse(can_take((3, (0, 0, 0, 0, 1, 2, 2)), (0, 4)))
        self.assertFalse(can_take((3, (0, 0, 0, 0, 0, 1, 1)), (1, 0)))
        self.assertFalse(can_take((3, (0, 1, 2, 0, 0, 0, 0)), (0, 1)))
        self.assertFalse(can_take((3, (0, 1, 1, 0, 0, 2, 2)), (1, 5)))
        self.assertFalse(can_take((3, (0, 0, 0, 0, 1, 2, 2)), (0, 0)))
        self.assertTrue(can_take((3, (0, 0, 0, 1, 1, 2, 2)), (1, 0)))
        self.assertTrue(can_take((3, (0, 0, 0, 1, 1, 2, 2)), (0, 3)))
        self.assertFalse(can_take((3, (0, 1, 1, 1, 2, 2, 2, 3, 3, 3)), (1, 0)))
        self.assertTrue(can_take((3, (0, 0, 1, 1, 2, 2, 2, 3, 3, 3)), (2, 0)))
        self.assertFalse(can_take((3, (0, 0, 1, 1, 2, 2, 2, 3, 3, 3)), (1, 0)))

    def check_bad_row(self, chart, row, index):
        for function in (done, traced):
            with self.assertRaises(BadRow) as caught:
                function(chart, row)
            self.assertEqual(caught.exception.index, index)

    def test_rows(self):
        self.assertEqual(done(CHART, ()), CHART)
        self.assertEqual(traced(CHART, ()), (CHART,))
        maps = traced(CHART, BACK_AND_FORTH)
        self.assertEqual(maps, (CHART, (3, (0, 0, 0, 0, 0, 1, 1))) * 20 + (CHART,))
        self.assertEqual(done(CHART, BACK_AND_FORTH), CHART)
        self.assertEqual(done(CHART, BACK_AND_FORTH[:39]), (3, (0, 0, 0, 0, 0, 1, 1)))

    def test_rows_trace_what_single_takings_make(self):
        for chart in plain.every_some_map(5):
            row, maps = [], [chart]
            while len(row) < 40 and plain.all_takings(maps[-1]):
                ready = plain.all_takings(maps[-1])
                row.append(ready[(7 * len(row) + len(chart[1])) % len(ready)])
                maps.append(plain.behind(maps[-1], row[-1]))
            self.assertEqual(traced(chart, tuple(row)), tuple(maps))
            self.assertEqual(done(chart, tuple(row)), maps[-1])

    def test_too_long_rows(self):
        self.check_bad_row(CHART, BACK_AND_FORTH + ((1, 5),), None)
        self.check_bad_row(CHART, (None,) * 41, None)
        self.check_bad_row(CHART, BACK_AND_FORTH[:39] + ((1, 5),), 39)
        self.check_bad_row(CHART, (None,) * 40, 0)

    def test_the_index_of_a_bad_row(self):
        for value in (None, True, 0, "", "ab", [], [(1, 5)], {}, {0: (1, 5)}):
            self.check_bad_row(CHART, value, None)
        no_takings = (
            None, True, 0, "15", (), (1,), (1, 5, 0), [1, 5], {1: 5}, (2, 5), (1, 7), (-1, 5), (1, -1), (True, 5),
            (1, True),
            ("1", 5), (1, None), ((1,), 5), (1, [5]), (10 ** 30, 5), ((1, 5),),
        )
        cannot = ((0, 5), (1, 0), (0, 6), (1, 6), (1, 4))
        for value in no_takings + cannot:
            self.check_bad_row(CHART, (value,), 0)
            self.check_bad_row(CHART, BACK_AND_FORTH[:4] + (value, (5, 5), None), 4)
        self.check_bad_row(CHART, ((1, 5), (1, 5)), 1)

    def test_wrong_inputs(self):
        wrong.check_wrong(self, takings, wrong.chart())
        wrong.check_wrong(self, can_take, wrong.chart(), wrong.taking())
        wrong.check_wrong(self, taken_back, wrong.chart(), wrong.taking())
        wrong.check_wrong(self, done, wrong.chart(), wrong.row())
        wrong.check_wrong(self, traced, wrong.chart(), wrong.row())


if __name__ == "__main__":
    unittest.main()
