import unittest

from starlands.errors import BadMap
from starlands.takings import done
from starlands.ways import around, distance, farthest, fewest, shows_fewest, way_count
from tests import plain, wrong

WARM = (3, (0, 0, 0, 0, 1, 2, 2))
FULL = (3, (0, 0, 0, 1, 1, 2, 2))
COLD = (3, (0, 0, 0, 0, 0, 1, 2))


def shortest_rows(one, other, limit=400):
    """Shortest rows from the one map to the other, the smallest first, by trying."""
    ends = plain.walk(other)
    if one not in ends:
        return []
    rows = [((), one)]
    for steps in range(ends[one]):
        longer = []
        for row, chart in rows:
            for taking in plain.all_takings(chart):
                ahead = plain.behind(chart, taking)
                if ends[ahead] < ends[chart]:
                    longer.append((row + (taking,), ahead))
        rows = longer[:limit]
    return [row for row, _ in rows]


def count_rows(one, other, many):
    """The number of rows, by trying them all."""
    if many == 0:
        return int(one == other)
    return sum(count_rows(plain.behind(one, taking), other, many - 1) for taking in plain.all_takings(one))


def border_sum(one, other):
    """The sum of the numbers of cells by which the borders move."""
    pairs = zip(plain.order_of(one)[1], plain.order_of(other)[1])
    return sum(abs(here - there) for ours, theirs in pairs for here, there in zip(ours, theirs))


def pairs_of_one_class(many=5):
    for chart in plain.every_some_map(3):
        steps = plain.walk(chart)
        ordered = list(steps)
        for other in ordered[::max(1, len(ordered) // many)] + ordered[-1:]:
            yield chart, other, steps[other]


class WaysTest(unittest.TestCase):
    def test_document(self):
        got = [
            distance(WARM, FULL), fewest(WARM, FULL), farthest((3, (0, 0, 0, 0, 0, 0, 1))), len(around(WARM, 0)),
            way_count(WARM, WARM, 2),
        ]
        self.assertEqual(got, [1, ((1, 3),), 1, 1, 2])

    def test_distance_by_walking(self):
        for one, other, steps in pairs_of_one_class():
            self.assertEqual(distance(one, other), steps)
            self.assertEqual(distance(other, one), steps)

    def test_distance_of_frozen_maps(self):
        seen = 0
        for one, other, steps in pairs_of_one_class(40):
            if plain.frozen(one):
                self.assertEqual(steps, border_sum(one, other))
                self.assertEqual(distance(one, other), steps)
                seen += 1
        self.assertGreater(seen, 100)

    def test_fewest_is_the_smallest_shortest_row(self):
        for one, other, steps in pairs_of_one_class():
            rows = shortest_rows(one, other)
            self.assertEqual(fewest(one, other), rows[0])
            self.assertEqual(rows[0], min(rows))
            self.assertEqual(len(rows[0]), steps)
            self.assertLessEqual(steps, 40)
            self.assertEqual(done(one, fewest(one, other)), other)

    def test_fewest_of_all_pairs(self):
        for one in plain.walk(WARM):
            for other in plain.walk(WARM):
                rows = shortest_rows(one, other, 10 ** 9)
                self.assertEqual(fewest(one, other), min(rows))
                for row in rows:
                    self.assertIs(shows_fewest(one, other, row), True)

    def test_unlike_classes(self):
        frozen = (3, (0, 0, 0, 0, 0, 2, 1))
        other = (3, (1, 1, 1, 1, 0, 2, 2))
        for one, two in ((WARM, COLD), (COLD, WARM), (COLD, frozen), (WARM, other)):
            self.assertIsNone(distance(one, two))
            self.assertIsNone(fewest(one, two))
            self.assertEqual([way_count(one, two, many) for many in range(9)], [0] * 9)
            wrong.check_shows(self, shows_fewest, (one, two), [None], [((1, 3),), ((0, 5),), ((2, 5),)])

    def test_shows_fewest(self):
        wrong.check_shows(self, shows_fewest, (WARM, WARM), [()], [((1, 3), (0, 3))])
        wrong.check_shows(self, shows_fewest, (WARM, FULL), [((1, 3),)], [
            ((True, 3),), [(1, 3)], ([1, 3],), ((1, 3), (0, 3), (1, 3)), ((0, 5),), ((1, 4),), ((0, 3),), ((1, 3, 0),),
            (1, 3),
            ((3, 3),), ((1, 7),), ("13",), ({1: 3},), ((1, 3), None), {0: (1, 3)},
        ])
        far = (3, (1, 0, 0, 1, 1, 1, 2))
        rows = shortest_rows(FULL, far)
        self.assertEqual(len(rows), 1)
        self.assertEqual(rows[0], ((1, 0), (1, 5)))
        wrong.check_shows(self, shows_fewest, (FULL, far), rows, [
            ((True, 0), (1, 5)), ((1, False), (1, 5)), ((1, 5), (1, 0)), [(1, 0), (1, 5)], ((1, 0),),
            ((1, 0), (1, 5), (0, 1)),
            ((1, 0), [1, 5]), ((1, 0), (0, 0)), ((1, 0), (2, 0)), ((1, 0), None), ((1, 0), (1, 6)),
        ])

    def test_shows_each_shortest_row(self):
        for one, other, steps in pairs_of_one_class(3):
            rows = shortest_rows(one, other)
            for row in rows[:2] + rows[-2:]:
                self.assertIs(shows_fewest(one, other, row), True)
                self.assertIs(shows_fewest(one, other, list(row)), False)
                self.assertIs(shows_fewest(one, other, row[1:] if row else None), False)
                ready = plain.all_takings(other)
                if ready:
                    back = (other[1][ready[0][1]], ready[0][1])
                    self.assertIs(shows_fewest(one, other, row + (ready[0], back)), False)
            self.assertIs(shows_fewest(one, other, None), False)

    def test_rows_of_right_length_to_other_maps(self):
        for taking in plain.all_takings(FULL):
            ahead = plain.behind(FULL, taking)
            for other in plain.all_takings(FULL):
                self.assertIs(shows_fewest(FULL, ahead, (other,)), other == taking)

    def test_farthest(self):
        for chart in plain.every_some_map(3):
            self.assertEqual(farthest(chart), max(plain.walk(chart).values()))

    def test_farthest_of_a_class_without_others(self):
        self.assertEqual(farthest((3, (0, 0, 0, 1))), 0)
        self.assertEqual(fewest((3, (0, 0, 0, 1)), (3, (0, 0, 0, 1))), ())

    def test_around(self):
        for chart in plain.every_some_map(2):
            steps = plain.walk(chart)
            for many in (0, 1, 2, 5, farthest(chart), farthest(chart) + 1, 59, 60):
                expected = tuple(sorted(other for other in steps if steps[other] == many))
                self.assertEqual(around(chart, many), expected)
            self.assertEqual(around(chart, 0), (chart,))
            self.assertEqual(around(chart, 60), ())

    def test_way_count_by_trying(self):
        for one in list(plain.walk(WARM))[:6]:
            for other in plain.walk(WARM):
                for many in range(6):
                    self.assertEqual(way_count(one, other, many), count_rows(one, other, many))
        there = (3, (0, 0, 0, 0, 0, 1, 1))
        here = (3, (0, 0, 0, 0, 0, 0, 1))
        self.assertEqual([way_count(here, there, many) for many in range(9)], [0, 1, 0, 1, 0, 1, 0, 1, 0])
        self.assertEqual([way_count(here, here, many) for many in range(9)], [1, 0, 1, 0, 1, 0, 1, 0, 1])

    def test_way_count_on_greater_islands(self):
        for one, other, steps in pairs_of_one_class(4):
            if steps <= 8:
                self.assertGreater(way_count(one, other, steps), 0)
                rows = shortest_rows(one, other, 10 ** 9) if steps <= 5 else []
                self.assertEqual(way_count(one, other, steps), len(rows) or way_count(other, one, steps))
            if steps > 0:
                self.assertEqual(way_count(one, other, min(steps - 1, 8)), 0)
                self.assertEqual(way_count(one, other, 0), 0)
            self.assertEqual(way_count(one, one, 2), len(plain.all_takings(one)))

    def test_wrong_inputs(self):
        wrong.check_wrong(self, distance, wrong.chart(), wrong.like_chart())
        wrong.check_wrong(self, fewest, wrong.chart(), wrong.like_chart())
        wrong.check_wrong(self, farthest, wrong.chart())
        wrong.check_wrong(self, around, wrong.chart(), wrong.count(2, 0, 60))
        wrong.check_wrong(self, way_count, wrong.chart(), wrong.like_chart(), wrong.count(2, 0, 8))

    def test_wrong_inputs_before_a_value_to_show(self):
        for value in (None, (), ((1, 3),), "x"):
            def shown(one, other, last=value):
                return shows_fewest(one, other, last)
            wrong.check_wrong(self, shown, wrong.chart(), wrong.like_chart())

    def test_maps_of_unlike_islands_or_numbers_of_lands(self):
        for one, other in plain.unlike_pairs():
            self.assertRaises(BadMap, distance, one, other)
            self.assertRaises(BadMap, fewest, one, other)
            self.assertRaises(BadMap, way_count, one, other, 2)
            self.assertRaises(BadMap, shows_fewest, one, other, None)


if __name__ == "__main__":
    unittest.main()
