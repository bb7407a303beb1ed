import unittest

from starlands.errors import BadMap
from starlands.turns import fewest_turns, turn_counts, turn_row
from tests import plain, wrong

WARM = (3, (0, 0, 0, 0, 1, 2, 2))
MOST = 6


class TurnsTest(unittest.TestCase):
    def test_document(self):
        got = [
            fewest_turns(WARM, (3, (1, 0, 0, 1, 1, 2, 2))), turn_row(WARM, (3, (0, 0, 0, 1, 1, 2, 2))),
            turn_counts((3, (0, 0, 0, 1, 1, 2, 2))),
        ]
        self.assertEqual(got, [1, (0, 1), (4, 8)])

    def test_some_pairs_by_walking(self):
        for chart in plain.every_some_map(2):
            maps = list(plain.walk(chart))
            for other in maps[::max(1, len(maps) // 4)] + maps[-1:]:
                pair = plain.turn_pair(chart, other, MOST)
                self.assertEqual(turn_row(chart, other), pair)
                self.assertEqual(fewest_turns(chart, other), pair[0])

    def test_all_pairs_of_a_class(self):
        for chart in (WARM, (3, (0, 0, 0, 0, 0, 0, 1, 0, 2, 3)), (3, (0, 0, 0, 0, 0, 1, 1, 0, 0, 2))):
            for one in list(plain.walk(chart))[::3]:
                for other in plain.walk(chart):
                    self.assertEqual(turn_row(one, other), plain.turn_pair(one, other, 4))

    def test_fewer_turns_may_need_more_takings_not_fewer(self):
        for chart in plain.every_some_map(2):
            steps = plain.walk(chart)
            last = list(steps)[-1]
            turns, many = turn_row(chart, last)
            self.assertGreaterEqual(many, steps[last])
            self.assertLessEqual(many, 40)
            self.assertEqual(turns == 0, plain.frozen(chart) or (last, 0) in plain.walk_turns(chart, 0))

    def test_turn_counts(self):
        for chart in plain.every_some_map(2):
            counts = [0] * (MOST + 1)
            for other in plain.walk(chart):
                counts[plain.turn_pair(chart, other, MOST)[0]] += 1
            while counts[-1] == 0:
                counts.pop()
            self.assertEqual(turn_counts(chart), tuple(counts))

    def test_frozen_maps(self):
        frozen = (3, (0, 0, 0, 0, 0, 0, 1))
        self.assertEqual(turn_counts(frozen), (2,))
        self.assertEqual(turn_row(frozen, (3, (0, 0, 0, 0, 0, 1, 1))), (0, 1))
        self.assertEqual(turn_row(frozen, frozen), (0, 0))
        self.assertEqual(fewest_turns(WARM, WARM), 0)

    def test_unlike_classes(self):
        for other in ((3, (0, 0, 0, 0, 0, 1, 2)), (3, (1, 1, 1, 1, 0, 2, 2))):
            self.assertIsNone(fewest_turns(WARM, other))
            self.assertIsNone(turn_row(WARM, other))
            self.assertIsNone(turn_row(other, WARM))

    def test_wrong_inputs(self):
        wrong.check_wrong(self, fewest_turns, wrong.chart(), wrong.like_chart())
        wrong.check_wrong(self, turn_row, wrong.chart(), wrong.like_chart())
        wrong.check_wrong(self, turn_counts, wrong.chart())

    def test_maps_of_unlike_islands_or_numbers_of_lands(self):
        for one, other in plain.unlike_pairs():
            for function in (fewest_turns, turn_row):
                self.assertRaises(BadMap, function, one, other)


if __name__ == "__main__":
    unittest.main()
