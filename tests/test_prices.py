import unittest
from itertools import product

from starlands.errors import BadMap, NotOne
from starlands.prices import cheap_row, cheapest_from, shows_cheap_row, shows_price_paper
from tests import plain, wrong

CHART = (3, (0, 0, 0, 0, 0, 0, 1))
THERE = (3, (0, 0, 0, 0, 0, 1, 1))
WARM = (3, (0, 0, 0, 0, 1, 2, 2))
FULL = (3, (0, 0, 0, 1, 1, 2, 2))
ALONE = (3, (0, 0, 0, 1))
OTHERS = ((3, (0, 0, 0, 0, 0, 1, 2)), (3, (1, 1, 1, 1, 0, 2, 2)), (3, (0, 0, 0, 2, 2, 1, 1)))


def follow(chart, row):
    """The map behind the takings, each of which can be made."""
    for taking in row:
        assert taking in plain.all_takings(chart)
        chart = plain.behind(chart, taking)
    return chart


def is_paper(one, other, prices, value):
    maps = sorted(plain.walk(one))
    numbers = dict(zip(maps, value))
    steps = [(chart, taking) for chart in maps for taking in plain.all_takings(chart)]
    return (
        len(value) == len(maps) and numbers[one] == 0 and numbers[other] == plain.least_prices(one, prices)[other]
        and all(numbers[plain.behind(*step)] - numbers[step[0]] <= prices[step[1][0]] for step in steps)
    )


def some_prices(lands, seed):
    numbers = plain.Numbers(seed)
    yield tuple(numbers.below(1001) for _ in range(lands))
    yield tuple(numbers.below(3) for _ in range(lands))


def some_pairs(many):
    for at, chart in enumerate(plain.every_some_map(many)):
        maps = sorted(plain.walk(chart))
        for prices in some_prices(plain.lands_of(chart), at):
            yield chart, maps, prices


class PricesTest(unittest.TestCase):
    def test_document(self):
        got = [
            cheap_row(CHART, THERE, (3, 5)), cheapest_from(CHART, (3, 5)),
            shows_price_paper(CHART, THERE, (3, 5), (0, 5)),
        ]
        self.assertEqual(got, [(5, ((1, 5),)), (0, 5), True])

    def check_row(self, one, other, prices, least):
        price, row = cheap_row(one, other, prices)
        self.assertEqual(price, least)
        self.assertEqual(follow(one, row), other)
        self.assertEqual(sum(prices[land] for land, _ in row), price)
        self.assertLessEqual(len(row), 2000)
        self.assertIs(shows_cheap_row(one, other, prices, (price, row)), True)
        self.assertIs(shows_cheap_row(one, other, prices, (price + 1, row)), False)
        self.assertIs(shows_cheap_row(one, other, prices, None), False)

    def test_cheap_rows_and_prices(self):
        for chart, maps, prices in some_pairs(1):
            least = plain.least_prices(chart, prices)
            self.assertEqual(cheapest_from(chart, prices), tuple(least[other] for other in maps))
            for other in maps[::max(1, len(maps) // 3)]:
                self.check_row(chart, other, prices, least[other])

    def test_all_pairs_of_a_class(self):
        for prices in ((0, 0, 0), (1000, 1000, 1000), (0, 1, 1000), (7, 0, 7), (1, 2, 4)):
            for one in plain.walk(WARM):
                least = plain.least_prices(one, prices)
                self.assertEqual(cheapest_from(one, prices), tuple(least[other] for other in sorted(least)))
                for other in least:
                    self.check_row(one, other, prices, least[other])

    def test_prices_at_their_ends(self):
        for chart in plain.every_some_map(1):
            steps = plain.walk(chart)
            lands = plain.lands_of(chart)
            self.assertEqual(cheapest_from(chart, (0,) * lands), (0,) * len(steps))
            self.assertEqual(cheapest_from(chart, (1,) * lands), tuple(steps[other] for other in sorted(steps)))
            thousands = tuple(1000 * steps[other] for other in sorted(steps))
            self.assertEqual(cheapest_from(chart, (1000,) * lands), thousands)

    def test_unlike_classes(self):
        for other in OTHERS:
            for one, two in ((WARM, other), (other, WARM)):
                self.assertIsNone(cheap_row(one, two, (1, 2, 3)))
                nears = [(0, ()), (1, ((0, 5),)), (1, ((1, 3),)), (0, None)]
                wrong.check_shows(self, shows_cheap_row, (one, two, (1, 2, 3)), [None], nears)

    def test_shows_cheap_row(self):
        wrong.check_shows(self, shows_cheap_row, (WARM, WARM, (1, 1, 1)), [(0, ())], [
            (0, []), (False, ()), [0, ()], (0,), (0, (), 0), (2, ((1, 3), (0, 3))), (0, ((1, 3), (0, 3))), (1, ()),
            ("0", ()), (None, ()), (0, None), (0, {}), (0, ""), ((), 0), {0: ()}, (0, ((),)), (-1, ()),
        ])
        wrong.check_shows(self, shows_cheap_row, (WARM, FULL, (1, 1, 1)), [(1, ((1, 3),))], [
            (True, ((1, 3),)), (1, [(1, 3)]), (1, ([1, 3],)), (1, ((True, 3),)), (1, ((1, 3, 0),)), (1, (1, 3)),
            (1, ((2, 3),)), (1, ((0, 5),)), (1, ((1, 4),)), (1, ((3, 3),)), (1, ((1, 7),)), (1, ("13",)),
            (1, ({1: 3},)), (1, (None,)), (0, ((1, 3),)), (2, ((1, 3),)), (3, ((1, 3), (0, 3), (1, 3))),
            (1, ((1, 3), (0, 3), (1, 3))), [1, ((1, 3),)], (1, ((1, 3),), 0), (1, ()), (0, ()), ((1, 3),), 1,
            (1, {0: (1, 3)}), (1, ((1, 3), None)),
        ])

    def test_several_cheapest_rows(self):
        chart = (3, (0, 0, 0, 0, 0, 0, 1, 0, 0, 2))
        goal = (3, (0, 0, 0, 0, 0, 1, 1, 0, 2, 2))
        rows = [((1, 5), (2, 8)), ((2, 8), (1, 5))]
        for row in rows:
            self.assertIs(shows_cheap_row(chart, goal, (9, 2, 3), (5, row)), True)
            self.assertIs(shows_cheap_row(chart, goal, (0, 2, 3), (5, ((1, 5), (0, 5)) + row)), False)
            self.assertIs(shows_cheap_row(chart, goal, (0, 0, 3), (3, ((1, 5), (0, 5)) + row)), True)
            self.assertIs(shows_cheap_row(chart, goal, (0, 2, 3), (5, row[:1])), False)

    def test_up_to_2000_takings(self):
        round_trip = ((1, 5), (0, 5))
        for many in (0, 1, 20, 21, 999, 1000):
            self.assertIs(shows_cheap_row(CHART, CHART, (0, 0), (0, round_trip * many)), True)
            self.assertIs(shows_cheap_row(CHART, THERE, (0, 0), (0, round_trip * many + ((1, 5),))), many < 1000)
        for many in (1001, 1002, 2000):
            self.assertIs(shows_cheap_row(CHART, CHART, (0, 0), (0, round_trip * many)), False)
        self.assertIs(shows_cheap_row(CHART, CHART, (0, 1), (1, round_trip)), False)

    def test_a_class_of_one_map(self):
        self.assertEqual((cheap_row(ALONE, ALONE, (1, 1)), cheapest_from(ALONE, (1, 1))), ((0, ()), (0,)))
        wrong.check_shows(self, shows_price_paper, (ALONE, ALONE, (1, 1)), [(0,)], [(1,), (-1,), (0, 0), (), [0], 0])

    def test_least_prices_are_a_paper(self):
        for chart, maps, prices in some_pairs(1):
            if len(maps) > 260:
                continue
            least = cheapest_from(chart, prices)
            for at in range(0, len(maps), max(1, len(maps) // 3)):
                self.assertIs(shows_price_paper(chart, maps[at], prices, least), True)
                for value in (least[:-1], least + (0,), list(least), least[:at] + (least[at] + 1,) + least[at + 1:]):
                    self.assertIs(shows_price_paper(chart, maps[at], prices, value), False)
                goal = maps[at - 1]
                if maps[at] != chart and goal != maps[at] and least[at] > 0:
                    less = least[:at] + (least[at] - 1,) + least[at + 1:]
                    self.assertIs(shows_price_paper(chart, maps[at], prices, less), False)
                    self.assertIs(shows_price_paper(chart, goal, prices, less), is_paper(chart, goal, prices, less))

    def test_all_papers_of_small_numbers(self):
        seen = {True: 0, False: 0}
        for start in (ALONE, CHART, (3, (0, 0, 0, 0, 0, 0, 0, 0, 0, 1))):
            maps = sorted(plain.walk(start))
            for prices in ((1, 1), (1, 0)):
                for one in maps:
                    for other in maps:
                        for value in product(range(-3, 4), repeat=len(maps)):
                            right = is_paper(one, other, prices, value)
                            self.assertIs(shows_price_paper(one, other, prices, value), right)
                            seen[right] += 1
        self.assertGreater(min(seen.values()), 20)

    def test_a_paper_is_wrong_if_one_number_is(self):
        numbers = plain.Numbers(3)
        maps = sorted(plain.walk(WARM))
        seen = set()
        for prices in ((1, 1, 1), (0, 3, 5), (2, 0, 0)):
            least = cheapest_from(WARM, prices)
            for _ in range(60):
                at, to = numbers.below(len(maps)), numbers.pick(maps)
                value = least[:at] + (least[at] + numbers.below(5) - 3,) + least[at + 1:]
                right = is_paper(WARM, to, prices, value)
                self.assertIs(shows_price_paper(WARM, to, prices, value), right)
                seen.add(right)
        self.assertEqual(seen, {True, False})

    def test_shows_price_paper(self):
        nears = [
            [0, 5], (0, 5, 0), (0,), (0, 4), (0, 6), (1, 6), (0, "5"), (0, None), (False, 5), (0, (5,)), (5, 0),
            {0: 5}, {0: 0, 1: 5}, "05", (0, 5, 5), (-1, 4), (0, -5), (0, [5]), (0, 10 ** 30),
        ]
        wrong.check_shows(self, shows_price_paper, (CHART, THERE, (3, 5)), [(0, 5)], nears)
        wrong.check_shows(self, shows_price_paper, (CHART, THERE, (3, 1)), [(0, 1)], [(0, True), (False, 1)])
        rights = [(0, number) for number in range(-3, 6)]
        wrong.check_shows(self, shows_price_paper, (CHART, CHART, (3, 5)), rights, [(0, -4), (0, 6), (0, True)])

    def test_unlike_classes_have_no_paper(self):
        for other in OTHERS:
            for value in (None, (0,) * 12, "x"):
                self.assertRaises(NotOne, shows_price_paper, WARM, other, (1, 1, 1), value)
                self.assertRaises(NotOne, shows_price_paper, other, WARM, (1, 1, 1), value)
                self.assertRaises(NotOne, shows_price_paper, WARM, other, None, value)

    def test_maps_of_unlike_islands_or_numbers_of_lands(self):
        for one, other in plain.unlike_pairs():
            self.assertRaises(BadMap, cheap_row, one, other, (1, 1))
            self.assertRaises(BadMap, shows_cheap_row, one, other, (1, 1), None)
            self.assertRaises(BadMap, shows_price_paper, one, other, (1, 1), None)

    def test_wrong_inputs(self):
        for prices in ((1, 0, 1000), (1000, 1000, 0), (0, 0, 0)):
            wrong.check_wrong(self, cheapest_from, wrong.chart(), wrong.prices(prices))
        wrong.check_wrong(self, cheap_row, wrong.chart(), wrong.like_chart(), wrong.prices())

    def test_wrong_inputs_before_a_value_to_show(self):
        for last in (None, (0, ()), "x"):
            def shown_row(one, other, prices, value=last):
                return shows_cheap_row(one, other, prices, value)

            def shown_paper(one, other, prices, value=last):
                return shows_price_paper(one, other, prices, value)
            wrong.check_wrong(self, shown_row, wrong.chart(), wrong.like_chart(), wrong.prices())
            second = wrong.class_chart(wrong.MAP, FULL, BadMap)
            wrong.check_wrong(self, shown_paper, wrong.chart(), second, wrong.prices())


if __name__ == "__main__":
    unittest.main()
