import unittest

from starlands.errors import BadCount, BadMap, BadPrices, BadValues
from starlands.nets import best_net, best_stay, shows_best_net, shows_best_stay
from tests import plain, wrong

CHART = (3, (0, 0, 0, 0, 0, 0, 1))
THERE = (3, (0, 0, 0, 0, 0, 1, 1))
WARM = (3, (0, 0, 0, 0, 1, 2, 2))
FULL = (3, (0, 0, 0, 1, 1, 2, 2))
ALONE = (3, (0, 0, 0, 1))
VALUES = ((1, 1, 1, 1, 1, 1, 1), (0, 0, 0, 0, 0, 5, 2))


def greatest_net(chart, values, prices):
    return max(plain.sum_worth(some, values) - price for some, price in plain.least_prices(chart, prices).items())


def follow(chart, row):
    """The maps behind the takings, each of which can be made."""
    maps = []
    for taking in row:
        assert taking in plain.all_takings(chart)
        chart = plain.behind(chart, taking)
        maps.append(chart)
    return maps


def price_of(row, prices):
    return sum(prices[land] for land, _ in row)


def net_of(chart, values, prices, row):
    return plain.sum_worth(([chart] + follow(chart, row))[-1], values) - price_of(row, prices)


def total_of(chart, values, prices, row):
    return sum(plain.sum_worth(some, values) for some in follow(chart, row)) - price_of(row, prices)


def all_totals(chart, values, prices, many):
    """The totals of all rows of at most so many takings."""
    yield 0
    if many:
        for taking in plain.all_takings(chart):
            other = plain.behind(chart, taking)
            gain = plain.sum_worth(other, values) - prices[taking[0]]
            for total in all_totals(other, values, prices, many - 1):
                yield gain + total


def cases(many):
    for at, chart in enumerate(plain.every_some_map(many)):
        lands, cells = plain.lands_of(chart), len(chart[1])
        numbers = plain.Numbers(at)
        yield chart, plain.some_values(lands, cells, at), tuple(numbers.below(30) for _ in range(lands))
        yield chart, plain.some_values(lands, cells, at + 9, 4), tuple(numbers.below(4) for _ in range(lands))


class NetsTest(unittest.TestCase):
    def test_document(self):
        got = [best_net(CHART, VALUES, (1, 1)), best_stay(CHART, VALUES, (1, 1), 1)]
        self.assertEqual(got, [(11, ((1, 5),)), (11, ((1, 5),))])

    def check_net(self, chart, values, prices, net):
        told = best_net(chart, values, prices)
        self.assertEqual((type(told), len(told), told[0]), (tuple, 2, net))
        self.assertEqual(net_of(chart, values, prices, told[1]), net)
        self.assertLessEqual(len(told[1]), 2000)
        self.assertIs(shows_best_net(chart, values, prices, told), True)
        for value in ((net + 1, told[1]), (net - 1, told[1]), (net, list(told[1])), told[1], None):
            self.assertIs(shows_best_net(chart, values, prices, value), False)
        for at in range(len(told[1])):
            row = told[1][:at]
            is_best = net_of(chart, values, prices, row) == net
            self.assertIs(shows_best_net(chart, values, prices, (net, row)), is_best)

    def test_best_net(self):
        rows = set()
        for chart, values, prices in list(cases(1))[::2]:
            net = greatest_net(chart, values, prices)
            self.check_net(chart, values, prices, net)
            rows.add(len(best_net(chart, values, prices)[1]))
        self.assertTrue({0, 1, 2} <= rows)

    def test_best_net_in_a_class(self):
        for seed in range(6):
            values = plain.some_values(3, 7, seed, 9)
            for prices in ((0, 0, 0), (1, 2, 3), (9, 0, 4), (1000, 1000, 1000)):
                for chart in plain.walk(FULL):
                    self.check_net(chart, values, prices, greatest_net(chart, values, prices))

    def test_prices_of_0_and_of_1000(self):
        for chart in plain.every_some_map(1)[::2]:
            lands = plain.lands_of(chart)
            values = plain.some_values(lands, len(chart[1]), lands)
            most = max(plain.sum_worth(some, values) for some in plain.walk(chart))
            self.assertEqual(best_net(chart, values, (0,) * lands)[0], most)
            # By one taking the worth grows by 200 at the most.
            worth = plain.sum_worth(chart, values)
            for price in (201, 1000):
                self.assertEqual(best_net(chart, values, (price,) * lands), (worth, ()))
        values = ((-100,) * 7, (100,) * 7)
        self.assertEqual(best_net(CHART, values, (0, 199)), (plain.sum_worth(THERE, values) - 199, ((1, 5),)))
        self.assertEqual(best_net(CHART, values, (0, 1000)), (plain.sum_worth(CHART, values), ()))
        self.assertEqual(best_net(THERE, values, (1000, 0)), (plain.sum_worth(THERE, values), ()))

    def test_values_of_only_0(self):
        for chart in plain.every_some_map(1)[::3] + [ALONE]:
            lands = plain.lands_of(chart)
            values = ((0,) * len(chart[1]),) * lands
            self.assertEqual(best_net(chart, values, (1,) * lands), (0, ()))
            self.assertEqual(best_stay(chart, values, (1,) * lands, 5), (0, ()))
            for many in range(1, 4):
                for row in ((), plain.all_takings(chart)[:1]):
                    free = (0, row)
                    self.assertIs(shows_best_net(chart, values, (0,) * lands, free), True)
                    self.assertIs(shows_best_stay(chart, values, (0,) * lands, many, free), True)

    def test_rows_of_2000_takings(self):
        there_and_back = ((1, 5), (0, 5))
        values = ((0,) * 7, (0,) * 7)
        for many in (0, 20, 999, 1000):
            self.assertIs(shows_best_net(CHART, values, (0, 0), (0, there_and_back * many)), True)
            self.assertIs(shows_best_net(CHART, VALUES, (0, 0), (12, there_and_back * many + ((1, 5),))), many < 1000)
        for many in (1001, 2000):
            self.assertIs(shows_best_net(CHART, values, (0, 0), (0, there_and_back * many)), False)
        self.assertIs(shows_best_net(CHART, values, (0, 1), (0, there_and_back)), False)
        self.assertIs(shows_best_net(CHART, values, (0, 1), (-1, there_and_back)), False)

    def test_shows_best_net(self):
        nears = [
            (11, ()), (12, ((1, 5),)), (10, ((1, 5),)), (11, [(1, 5)]), [11, ((1, 5),)], (11, ([1, 5],)),
            (11, ((1, 6),)), (11, ((0, 5),)), (11, ((1, 5), (0, 5), (1, 5))), (9, ((1, 5), (0, 5), (1, 5))),
            (11, ((True, 5),)), (8, ()),
            (11, ((1, 5),), 0), (11,), ("11", ((1, 5),)), (None, ((1, 5),)), (11, None), (11, {1: 5}), (11, (1, 5)),
            (11, ((1, 5), (1, 5))), (11, ((1, 5), None)), (11, ((1, 7),)), (11, ((2, 5),)), (11, "15"), ((1, 5), 11),
            (11, ((1, 5, 0),)),
        ]
        wrong.check_shows(self, shows_best_net, (CHART, VALUES, (1, 1)), [(11, ((1, 5),))], nears)
        zeros = ((0,) * 7,) * 2
        rights = [(0, ()), (0, ((1, 5),)), (0, ((1, 5), (0, 5)))]
        wrong.check_shows(self, shows_best_net, (CHART, zeros, (0, 0)), rights, [(False, ()), (0, []), (1, ())])
        ones = ((0,) * 7, (0,) * 6 + (1,))
        wrong.check_shows(self, shows_best_net, (CHART, ones, (1, 1)), [(1, ())], [(True, ()), (0, ((1, 5),)), (0, ())])

    def check_stay(self, chart, values, prices, many, total):
        told = best_stay(chart, values, prices, many)
        self.assertEqual((type(told), len(told), told[0]), (tuple, 2, total))
        self.assertLessEqual(len(told[1]), many)
        self.assertEqual(total_of(chart, values, prices, told[1]), total)
        self.assertIs(shows_best_stay(chart, values, prices, many, told), True)
        for value in ((total + 1, told[1]), (total - 1, told[1]), (total, list(told[1])), told[1], None):
            self.assertIs(shows_best_stay(chart, values, prices, many, value), False)
        for at in range(len(told[1])):
            row = told[1][:at]
            is_best = total_of(chart, values, prices, row) == total
            self.assertIs(shows_best_stay(chart, values, prices, many, (total, row)), is_best)

    def test_best_stay_by_all_rows(self):
        rows = set()
        for at, (chart, values, prices) in enumerate(cases(1)):
            for many in range(1, 4 + int(at % 9 == 0)):
                total = max(all_totals(chart, values, prices, many))
                self.check_stay(chart, values, prices, many, total)
                rows.add((many, len(best_stay(chart, values, prices, many)[1])))
        self.assertTrue({(1, 0), (1, 1), (3, 0), (3, 1), (3, 2), (3, 3)} <= rows)

    def test_stays_of_5_takings(self):
        for seed in range(5):
            values = plain.some_values(3, 7, seed, 6)
            for prices in ((0, 0, 0), (1, 2, 3), (5, 0, 9)):
                for chart in list(plain.walk(FULL))[::4]:
                    self.check_stay(chart, values, prices, 5, max(all_totals(chart, values, prices, 5)))

    def test_a_stay_of_fewer_takings_than_may_be(self):
        values = ((-1,) * 7, (0, 0, 0, 0, 0, 10, 0))
        # The worth behind the first taking is 5, behind the next one -6.
        self.assertEqual(best_stay(CHART, values, (0, 0), 2), (5, ((1, 5),)))
        self.assertEqual(best_stay(CHART, values, (0, 5), 2)[0], 0)
        self.assertEqual(best_stay(CHART, values, (0, 6), 5), (0, ()))
        self.assertEqual(best_stay(CHART, values, (0, 4), 1), (1, ((1, 5),)))

    def test_a_map_without_takings(self):
        values = ((9,) * 4, (9,) * 4)
        self.assertEqual(best_net(ALONE, values, (0, 0)), (36, ()))
        for many in range(1, 6):
            self.assertEqual(best_stay(ALONE, values, (0, 0), many), (0, ()))

    def test_shows_best_stay(self):
        nears = [
            (11, ()), (12, ((1, 5),)), (11, [(1, 5)]), [11, ((1, 5),)], (11, ([1, 5],)), (11, ((0, 5),)), (0, ()),
            (11, ((True, 5),)), (11, ((1, 5),), 0), (11,), ("11", ((1, 5),)), (11, None), (11, {1: 5}), (11, (1, 5)),
            (11, ((1, 5), (0, 5))), (18, ((1, 5), (0, 5))), (11, ((1, 5), None)), (11, ((1, 7),)), (11, ((1, 5, 0),)),
            (11, ((1, 5), (1, 5))),
        ]
        wrong.check_shows(self, shows_best_stay, (CHART, VALUES, (1, 1), 1), [(11, ((1, 5),))], nears)
        rights = [(18, ((1, 5), (0, 5)))]
        wrong.check_shows(self, shows_best_stay, (CHART, VALUES, (1, 1), 2), rights, nears + [(11, ((1, 5),))])
        zeros = ((0,) * 7,) * 2
        rights = [(0, ()), (0, ((1, 5),)), (0, ((1, 5), (0, 5)))]
        nears = [(False, ()), (0, []), (1, ()), (0, ((1, 5), (0, 5), (1, 5)))]
        wrong.check_shows(self, shows_best_stay, (CHART, zeros, (0, 0), 2), rights, nears)
        ones = ((0,) * 7, (0,) * 6 + (1,))
        wrong.check_shows(self, shows_best_stay, (CHART, ones, (0, 0), 1), [(1, ((1, 5),))], [(True, ((1, 5),))])

    def test_the_leftmost_error(self):
        self.assertRaises(BadMap, best_stay, None, None, None, None)
        self.assertRaises(BadValues, best_stay, CHART, None, None, None)
        self.assertRaises(BadPrices, best_stay, CHART, VALUES, (1,), None)
        for many in (0, 6, -1, True, None, "1", (1,)):
            self.assertRaises(BadCount, best_stay, CHART, VALUES, (1, 1), many)
            self.assertRaises(BadCount, shows_best_stay, CHART, VALUES, (1, 1), many, None)

    def test_wrong_inputs(self):
        wrong.check_wrong(self, best_net, wrong.chart(), wrong.values(), wrong.prices())
        for many in (1, 5):
            kinds = (wrong.chart(), wrong.values(), wrong.prices(), wrong.count(many, 1, 5))
            wrong.check_wrong(self, best_stay, *kinds)

    def test_wrong_inputs_before_a_value_to_show(self):
        for last in (None, (0, ()), "x"):
            def shown_net(chart, values, prices, value=last):
                return shows_best_net(chart, values, prices, value)

            def shown_stay(chart, values, prices, many, value=last):
                return shows_best_stay(chart, values, prices, many, value)
            wrong.check_wrong(self, shown_net, wrong.chart(), wrong.values(), wrong.prices())
            kinds = (wrong.chart(), wrong.values(), wrong.prices(), wrong.count(2, 1, 5))
            wrong.check_wrong(self, shown_stay, *kinds)


if __name__ == "__main__":
    unittest.main()
