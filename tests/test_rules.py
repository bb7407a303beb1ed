import unittest

from starlands.errors import BadMap
from starlands.rules import rule_distance, rule_maps, rule_row, ruled
from starlands.ways import fewest
from tests import plain, wrong

CHART = (3, (0, 0, 0, 0, 0, 0, 1))
THERE = (3, (0, 0, 0, 0, 0, 1, 1))
WARM = (3, (0, 0, 0, 0, 1, 2, 2))
ALONE = (3, (0, 0, 0, 1))

# By no rule is a map farther from another one.
FAR_START = (3, (4, 4, 4, 4, 0, 3, 3, 2, 1, 4, 4, 4, 4))
FAR_GOAL = (3, (1, 1, 3, 2, 0, 1, 1, 1, 1, 1, 1, 1, 4))
FAR_RULE = (
    (0, 2), (0, 3), (0, 4), (1, 0), (1, 2), (1, 3), (1, 4), (2, 0), (2, 3), (2, 4), (3, 0), (3, 1), (3, 2), (4, 2),
)


def all_pairs(lands):
    return tuple((taker, loser) for taker in range(lands) for loser in range(lands) if taker != loser)


def some_rules(lands, many, seed):
    numbers = plain.Numbers(seed)
    pairs = all_pairs(lands)
    for at in range(many):
        yield tuple(pair for pair in pairs if numbers.below(4) > at % 3)


def allowed(chart, rule):
    return [(land, cell) for land, cell in plain.all_takings(chart) if (land, chart[1][cell]) in rule]


def walk(chart, rule):
    """All maps that takings by the rule make of a map, with the least number of takings."""
    return plain.walk_by(chart, lambda one: allowed(one, rule))


def smallest_row(one, other, rule):
    """The smallest of all shortest rows: each taking is the smallest behind which the goal is nearer."""
    left = walk(one, rule).get(other)
    if left is None:
        return None
    row = []
    while left:
        left -= 1
        ready = allowed(one, rule)
        row.append(min(taking for taking in ready if walk(plain.behind(one, taking), rule).get(other) == left))
        one = plain.behind(one, row[-1])
    return tuple(row)


class RulesTest(unittest.TestCase):
    def test_document(self):
        got = [
            ruled(CHART, ((0, 1),)), rule_row(CHART, THERE, ((1, 0),)), rule_distance(CHART, THERE, ()),
            rule_maps(CHART, ()),
        ]
        self.assertEqual(got, [(), ((1, 5),), None, (CHART,)])

    def test_ruled(self):
        for at, chart in enumerate(plain.every_some_map()):
            for rule in some_rules(plain.lands_of(chart), 4, at):
                self.assertEqual(ruled(chart, rule), tuple(allowed(chart, rule)))

    def test_the_rules_of_single_pairs(self):
        for chart in plain.every_some_map(4):
            parts = [ruled(chart, (pair,)) for pair in all_pairs(plain.lands_of(chart))]
            self.assertEqual(sorted(sum(parts, ())), list(plain.all_takings(chart)))

    def test_the_empty_rule_and_that_of_all_pairs(self):
        for chart in plain.every_some_map(2):
            rule = all_pairs(plain.lands_of(chart))
            steps = plain.walk(chart)
            self.assertEqual((ruled(chart, ()), rule_maps(chart, ())), ((), (chart,)))
            self.assertEqual(ruled(chart, rule), plain.all_takings(chart))
            self.assertEqual(rule_maps(chart, rule), tuple(sorted(steps)))
            for other in list(steps)[::max(1, len(steps) // 4)]:
                self.assertEqual(rule_row(chart, other, rule), fewest(chart, other))
                self.assertEqual(rule_distance(chart, other, rule), steps[other])
                self.assertEqual(rule_row(chart, other, ()), () if other == chart else None)
                self.assertEqual(rule_distance(chart, other, ()), 0 if other == chart else None)

    def test_rules_by_walking(self):
        seen = set()
        for at, chart in enumerate(plain.every_some_map(2)):
            others = sorted(plain.walk(chart))
            for rule in some_rules(plain.lands_of(chart), 3, at):
                steps = walk(chart, rule)
                self.assertEqual(rule_maps(chart, rule), tuple(sorted(steps)))
                for other in others[::max(1, len(others) // 6)]:
                    self.assertEqual(rule_distance(chart, other, rule), steps.get(other))
                    seen.add(steps.get(other, -1) < 0)
        self.assertEqual(seen, {True, False})

    def test_rows_of_all_pairs_of_a_class(self):
        maps = sorted(plain.walk(WARM))
        for rule in list(some_rules(3, 6, 5)) + [((0, 1), (1, 2), (2, 0))]:
            for one in maps:
                for other in maps:
                    self.assertEqual(rule_row(one, other, rule), smallest_row(one, other, rule))

    def test_rows_on_greater_islands(self):
        rows = 0
        for size in ((3, 3, 4), (4, 3, 4), (3, 4, 3), (4, 4, 3)):
            for at, chart in enumerate(plain.some_maps(*size, 3)):
                for rule in some_rules(size[2], 3, at):
                    far = list(walk(chart, rule))[-1]
                    row = rule_row(chart, far, rule)
                    self.assertEqual(row, smallest_row(chart, far, rule))
                    self.assertEqual(rule_distance(chart, far, rule), len(row))
                    rows += len(row) > 4
        self.assertGreater(rows, 5)

    def test_there_but_not_back(self):
        self.assertEqual(rule_row(CHART, THERE, ((1, 0),)), ((1, 5),))
        self.assertIsNone(rule_row(THERE, CHART, ((1, 0),)))
        self.assertEqual(rule_row(THERE, CHART, ((0, 1),)), ((0, 5),))
        self.assertEqual(rule_maps(THERE, ((1, 0),)), (THERE,))
        self.assertEqual(rule_maps(CHART, ((1, 0),)), (CHART, THERE))

    def test_a_class_of_one_map(self):
        self.assertEqual((ruled(ALONE, ((0, 1), (1, 0))), rule_maps(ALONE, ((0, 1),))), ((), (ALONE,)))
        self.assertEqual((rule_row(ALONE, ALONE, ()), rule_distance(ALONE, ALONE, ())), ((), 0))

    def test_unlike_classes(self):
        for other in ((3, (0, 0, 0, 0, 0, 1, 2)), (3, (1, 1, 1, 1, 0, 2, 2)), (3, (0, 0, 0, 2, 2, 1, 1))):
            for rule in ((), ((0, 1),), all_pairs(3)):
                self.assertIsNone(rule_row(WARM, other, rule))
                self.assertIsNone(rule_distance(WARM, other, rule))
                self.assertIsNone(rule_row(other, WARM, rule))

    def test_maps_of_unlike_islands_or_numbers_of_lands(self):
        for one, other in plain.unlike_pairs():
            for function in (rule_row, rule_distance):
                self.assertRaises(BadMap, function, one, other, ((0, 1),))

    def test_the_longest_row_that_was_found(self):
        row = rule_row(FAR_START, FAR_GOAL, FAR_RULE)
        self.assertEqual((len(row), rule_distance(FAR_START, FAR_GOAL, FAR_RULE)), (30, 30))
        self.assertEqual(walk(FAR_START, FAR_RULE)[FAR_GOAL], 30)
        there = FAR_START
        for taking in row:
            self.assertIn(taking, allowed(there, FAR_RULE))
            there = plain.behind(there, taking)
        self.assertEqual(there, FAR_GOAL)

    def test_wrong_inputs(self):
        for function in (ruled, rule_maps):
            wrong.check_wrong(self, function, wrong.chart(), wrong.rule())
        for function in (rule_row, rule_distance):
            wrong.check_wrong(self, function, wrong.chart(), wrong.like_chart(), wrong.rule())


if __name__ == "__main__":
    unittest.main()
