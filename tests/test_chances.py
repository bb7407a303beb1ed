import unittest
from fractions import Fraction

from starlands.chances import after_chances, hub_shares, long_share, mean_areas, mean_back, mean_first
from starlands.errors import BadMap, NotOne, TooMany
from tests import plain, wrong

CHART = (3, (0, 0, 0, 0, 0, 0, 1))
THERE = (3, (0, 0, 0, 0, 0, 1, 1))
WARM = (3, (0, 0, 0, 0, 1, 2, 2))
ALONE = (3, (0, 0, 0, 1))

# Two maps of a class of 36 maps, the smallest one of more than 30.
MANY = (4, (0, 0, 0, 1, 2, 0, 0, 3, 4, 0, 0, 0, 0, 0, 0, 0, 0))
MANY_TOO = (4, (0, 1, 1, 1, 2, 3, 3, 3, 4, 0, 0, 0, 0, 0, 0, 0, 0))


def ratio(number):
    return (Fraction(number).numerator, Fraction(number).denominator)


def number(pair):
    return Fraction(*pair)


def moves(chart):
    """The chances of what is there behind one taking."""
    ahead = [plain.behind(chart, taking) for taking in plain.all_takings(chart)] or [chart]
    return {other: Fraction(1, len(ahead)) for other in ahead}


def chances_by_trying(chart, many):
    """The chances behind so many takings, by trying all rows."""
    chances = {}

    def follow(there, chance, left):
        if left == 0:
            chances[there] = chances.get(there, 0) + chance
            return
        for other, share in moves(there).items():
            follow(other, chance * share, left - 1)
    follow(chart, Fraction(1), many)
    return tuple(sorted((there, ratio(chance)) for there, chance in chances.items()))


class ChancesTest(unittest.TestCase):
    def test_document(self):
        got = [
            after_chances(CHART, 1), long_share(CHART), hub_shares(CHART), mean_areas(CHART), mean_back(CHART),
            mean_first(CHART, THERE),
        ]
        self.assertEqual(got, [((THERE, (1, 1)),), (1, 2), ((1, 1), (0, 1)), ((11, 2), (3, 2)), (2, 1), (1, 1)])

    def test_after_chances_by_trying(self):
        for at, chart in enumerate(plain.every_some_map(3)):
            for many in range(4 if at % 5 else 5):
                got = after_chances(chart, many)
                self.assertEqual(got, chances_by_trying(chart, many))
                self.assertEqual(sum(number(chance) for _, chance in got), 1)
            self.assertEqual(after_chances(chart, 0), ((chart, (1, 1)),))

    def test_after_most_takings(self):
        for chart in plain.walk(WARM):
            for many in (5, 6):
                self.assertEqual(after_chances(chart, many), chances_by_trying(chart, many))
        self.assertEqual(after_chances(CHART, 6), ((CHART, (1, 1)),))
        self.assertEqual(after_chances(CHART, 5), ((THERE, (1, 1)),))

    def test_a_map_without_takings_stays(self):
        for chart in (ALONE, (4, (0, 0, 0, 1, 2, 0, 0, 0, 0)), (3, (2, 0, 1, 2, 2, 2, 2))):
            self.assertEqual(plain.all_takings(chart), ())
            lands = plain.lands_of(chart)
            for many in range(7):
                self.assertEqual(after_chances(chart, many), ((chart, (1, 1)),))
            self.assertEqual((long_share(chart), mean_back(chart), mean_first(chart, chart)), ((1, 1), (1, 1), (0, 1)))
            self.assertEqual(hub_shares(chart), tuple((int(land == chart[1][0]), 1) for land in range(lands)))
            self.assertEqual(mean_areas(chart), tuple((chart[1].count(land), 1) for land in range(lands)))

    def test_long_shares_stay_as_they_are_when_walking(self):
        for maps in plain.classes_up_to(50):
            shares = {chart: number(long_share(chart)) for chart in maps}
            self.assertEqual(sum(shares.values()), 1)
            ahead = {chart: Fraction(0) for chart in maps}
            for chart in maps:
                for other, chance in moves(chart).items():
                    ahead[other] += shares[chart] * chance
            self.assertEqual(ahead, shares)

    def test_long_shares_by_numbers_of_takings(self):
        for chart in plain.every_some_map(2):
            counts = {other: len(plain.all_takings(other)) or 1 for other in plain.walk(chart)}
            total = sum(counts.values())
            self.assertEqual(long_share(chart), ratio(Fraction(counts[chart], total)))
            self.assertEqual(mean_back(chart), ratio(Fraction(total, counts[chart])))
            hubs, areas = [], []
            for land in range(plain.lands_of(chart)):
                hubs.append(sum(counts[other] for other in counts if other[1][0] == land))
                areas.append(sum(counts[other] * other[1].count(land) for other in counts))
            self.assertEqual(hub_shares(chart), tuple(ratio(Fraction(hub, total)) for hub in hubs))
            self.assertEqual(mean_areas(chart), tuple(ratio(Fraction(area, total)) for area in areas))

    def test_mean_first_by_the_step_before(self):
        for maps in plain.classes_up_to(30):
            for goal in maps if len(maps) < 13 else maps[::9]:
                means = {chart: number(mean_first(chart, goal)) for chart in maps}
                self.assertEqual(means[goal], 0)
                for chart in maps:
                    ahead = 1 + sum(means[other] * chance for other, chance in moves(chart).items())
                    if chart == goal:
                        self.assertEqual(number(mean_back(chart)), ahead)
                    else:
                        self.assertEqual(means[chart], ahead)

    def test_mean_first_is_a_ratio(self):
        seen = set()
        maps = sorted(plain.walk(WARM))
        for one in maps:
            for other in maps:
                top, bottom = mean_first(one, other)
                self.assertEqual((top, bottom), ratio(Fraction(top, bottom)))
                seen.add(bottom)
        self.assertGreater(len(seen), 1)

    def test_one_and_the_same_map_twice(self):
        for maps in plain.classes_up_to(30):
            self.assertEqual(mean_first(maps[-1], maps[-1]), (0, 1))

    def check_too_many(self, function, one, other):
        with self.assertRaises(TooMany) as caught:
            function(one, other)
        self.assertEqual(caught.exception.most, 30)

    def test_classes_of_up_to_30_maps_and_of_more(self):
        sizes = {len(maps) for maps in plain.classes_up_to(10 ** 9)}
        # There is no class of just 30 maps.
        self.assertEqual(sorted(size for size in sizes if 24 < size < 48), [27, 36])
        for maps in plain.classes_up_to(10 ** 9):
            if len(maps) > 30:
                self.check_too_many(mean_first, maps[0], maps[-1])
                self.check_too_many(mean_first, maps[0], maps[0])
            else:
                self.assertGreaterEqual(number(mean_first(maps[0], maps[-1])), len(maps) > 1)

    def test_too_many_comes_after_all_others(self):
        self.check_too_many(mean_first, MANY, MANY_TOO)
        other = (4, MANY[1][:7] + (4, 3) + (0,) * 8)
        for two in (CHART, other, (4, (0,) * 15 + (1, 2)), (4, (1,) * 16 + (0,))):
            self.assertRaises(NotOne, mean_first, MANY, two)
            self.assertRaises(NotOne, mean_first, two, MANY)
        for two in (None, 0, "", (), [MANY], {}, list(MANY), (True, MANY[1])):
            self.assertRaises(BadMap, mean_first, MANY, two)
            self.assertRaises(BadMap, mean_first, two, MANY)

    def test_unlike_islands_are_not_one(self):
        for one, other in plain.unlike_pairs():
            self.assertRaises(NotOne, mean_first, one, other)

    def test_wrong_inputs(self):
        wrong.check_wrong(self, after_chances, wrong.chart(), wrong.count(2, 0, 6))
        for function in (long_share, hub_shares, mean_areas, mean_back):
            wrong.check_wrong(self, function, wrong.chart())
        good = (3, (0, 0, 0, 1, 1, 2, 2))
        wrong.check_wrong(self, mean_first, wrong.chart(), wrong.class_chart(wrong.MAP, good))


if __name__ == "__main__":
    unittest.main()
