import unittest
from fractions import Fraction

from starlands.draws import drawn_chances, drawn_first, drawn_share, still_chance
from starlands.errors import BadMap, NotOne, TooMany
from tests import plain, wrong
from tests.test_chances import ALONE, CHART, MANY, MANY_TOO, THERE, WARM, number, ratio


def draws(chart):
    """The chances of what is there behind one draw, by drawing all pairs."""
    pairs = [(land, cell) for land in range(plain.lands_of(chart)) for cell in range(len(chart[1]))]
    chances = {}
    for pair in pairs:
        other = plain.behind(chart, pair) if plain.can(chart, pair) else chart
        chances[other] = chances.get(other, 0) + Fraction(1, len(pairs))
    return chances


def chances_by_drawing(chart, many):
    chances = {chart: Fraction(1)}
    for _ in range(many):
        ahead = {}
        for there, chance in chances.items():
            for other, share in draws(there).items():
                ahead[other] = ahead.get(other, 0) + chance * share
        chances = ahead
    return tuple(sorted((there, ratio(chance)) for there, chance in chances.items()))


class DrawsTest(unittest.TestCase):
    def test_document(self):
        got = [still_chance(CHART), drawn_share(CHART), drawn_first(CHART, THERE), len(drawn_chances(CHART, 1))]
        self.assertEqual(got, [(13, 14), (1, 2), (14, 1), 2])

    def test_drawn_chances_by_drawing(self):
        for at, chart in enumerate(plain.every_some_map(3)):
            for many in range(2 if at % 7 else 5):
                got = drawn_chances(chart, many)
                self.assertEqual(got, chances_by_drawing(chart, many))
                self.assertEqual(sum(number(chance) for _, chance in got), 1)
            self.assertEqual(drawn_chances(chart, 0), ((chart, (1, 1)),))

    def test_drawn_chances_of_a_whole_class(self):
        for chart in list(plain.walk(WARM)) + [CHART, THERE, ALONE]:
            for many in range(5):
                self.assertEqual(drawn_chances(chart, many), chances_by_drawing(chart, many))

    def test_all_maps_of_a_class_have_the_same_share(self):
        for maps in plain.classes_up_to(60):
            shares = {chart: number(drawn_share(chart)) for chart in maps}
            self.assertEqual(set(shares.values()), {Fraction(1, len(maps))})
            ahead = {chart: Fraction(0) for chart in maps}
            for chart in maps:
                for other, chance in draws(chart).items():
                    ahead[other] += shares[chart] * chance
            self.assertEqual(ahead, shares)

    def test_drawn_share_of_greater_classes(self):
        for chart in plain.every_some_map(1):
            self.assertEqual(drawn_share(chart), (1, len(plain.walk(chart))))

    def test_still_chance(self):
        for chart in plain.every_some_map():
            self.assertEqual(still_chance(chart), ratio(draws(chart)[chart]))
        self.assertEqual(still_chance(ALONE), (1, 1))

    def test_drawn_first_by_the_draw_before(self):
        for maps in plain.classes_up_to(30):
            for goal in maps if len(maps) < 10 else maps[::9]:
                means = {chart: number(drawn_first(chart, goal)) for chart in maps}
                self.assertEqual(means[goal], 0)
                for chart in maps:
                    if chart != goal:
                        ahead = sum(means[other] * chance for other, chance in draws(chart).items())
                        self.assertEqual(means[chart], 1 + ahead)

    def test_a_class_of_one_map(self):
        self.assertEqual((drawn_share(ALONE), drawn_first(ALONE, ALONE)), ((1, 1), (0, 1)))
        for many in range(5):
            self.assertEqual(drawn_chances(ALONE, many), ((ALONE, (1, 1)),))

    def check_too_many(self, one, other):
        with self.assertRaises(TooMany) as caught:
            drawn_first(one, other)
        self.assertEqual(caught.exception.most, 30)

    def test_classes_of_up_to_30_maps_and_of_more(self):
        self.check_too_many(MANY, MANY_TOO)
        for maps in plain.classes_up_to(10 ** 9):
            if len(maps) > 30:
                self.check_too_many(maps[0], maps[-1])
                self.check_too_many(maps[-1], maps[-1])
            else:
                self.assertEqual(drawn_first(maps[-1], maps[-1]), (0, 1))

    def test_too_many_comes_after_all_others(self):
        for two in (CHART, (4, (0,) * 15 + (1, 2)), (4, (1,) * 16 + (0,))):
            self.assertRaises(NotOne, drawn_first, MANY, two)
            self.assertRaises(NotOne, drawn_first, two, MANY)
        for two in (None, 0, "", (), [MANY], {}, list(MANY), (True, MANY[1])):
            self.assertRaises(BadMap, drawn_first, MANY, two)
            self.assertRaises(BadMap, drawn_first, two, MANY)

    def test_unlike_islands_are_not_one(self):
        for one, other in plain.unlike_pairs():
            self.assertRaises(NotOne, drawn_first, one, other)

    def test_wrong_inputs(self):
        wrong.check_wrong(self, drawn_chances, wrong.chart(), wrong.count(2, 0, 4))
        for function in (drawn_share, still_chance):
            wrong.check_wrong(self, function, wrong.chart())
        good = (3, (0, 0, 0, 1, 1, 2, 2))
        wrong.check_wrong(self, drawn_first, wrong.chart(), wrong.class_chart(wrong.MAP, good))


if __name__ == "__main__":
    unittest.main()
