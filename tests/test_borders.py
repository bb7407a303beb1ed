import unittest
from itertools import combinations, product

from starlands.borders import borders, from_orders, hub_land, land_pairs, neighbors, orders
from starlands.errors import BadPlaces
from tests import plain, wrong


def arm_choices(length, lands):
    """All orders of an arm, with all places of their borders."""
    return [
        (order, spots) for many in range(length + 1) for order in product(range(lands), repeat=many)
        for spots in combinations(range(length), many)
    ]


class BordersTest(unittest.TestCase):
    def test_document(self):
        warm = (3, (0, 0, 0, 0, 1, 2, 2))
        got = [
            borders(warm), orders(warm), hub_land(warm), land_pairs(warm), neighbors(warm, 0),
            from_orders(2, 0, ((), (1,), (2,)), ((), (1,), (0,))),
        ]
        self.assertEqual(got, [
            ((0, 5), (3, 4)), ((), (1,), (2,)), 0, ((0, 1), (0, 2)), (1, 2), (3, (0, 0, 0, 0, 1, 2, 2)),
        ])

    def check_map(self, chart):
        self.assertEqual(borders(chart), tuple(plain.cuts(chart)))
        self.assertEqual(len(borders(chart)), plain.lands_of(chart) - 1)
        self.assertEqual(hub_land(chart), chart[1][0])
        order, places = plain.order_of(chart)
        self.assertEqual(orders(chart), order)
        self.assertEqual(from_orders(plain.length_of(chart), chart[1][0], order, places), chart)
        pairs = plain.touching_pairs(chart)
        self.assertEqual(land_pairs(chart), tuple(pairs))
        for land in range(plain.lands_of(chart)):
            near = sorted(sum(pair) - land for pair in pairs if land in pair)
            self.assertEqual(neighbors(chart, land), tuple(near))

    def test_all_small_maps(self):
        for size in plain.SMALL_SIZES:
            for chart in plain.all_maps(*size):
                self.check_map(chart)

    def test_some_maps_of_all_sizes(self):
        for chart in plain.every_some_map(30):
            self.check_map(chart)

    def test_borders_ascend(self):
        chart = (4, (4, 4, 4, 4, 0, 1, 1, 1, 1, 4, 2, 2, 2, 3, 3, 3, 3))
        self.assertEqual(borders(chart), ((0, 5), (0, 13), (3, 4), (9, 10)))
        self.assertEqual(orders(chart), ((0,), (1,), (2,), (3,)))
        self.assertEqual(neighbors(chart, 4), (0, 1, 2, 3))
        self.assertEqual(neighbors((3, (2, 1, 0, 2, 2, 2, 2)), 1), (0, 2))

    def test_from_orders_gives_the_map_or_none(self):
        for length, lands in ((1, 3), (2, 3)):
            found = {}
            for number in range(2, length + 2):
                for chart in plain.all_maps(3, length, number):
                    order, places = plain.order_of(chart)
                    found[chart[1][0], order, places] = chart
            for hub in range(lands):
                for choice in product(arm_choices(length, lands), repeat=3):
                    order = tuple(part[0] for part in choice)
                    places = tuple(part[1] for part in choice)
                    self.assertEqual(from_orders(length, hub, order, places), found.get((hub, order, places)))

    def test_from_orders_where_there_is_no_map(self):
        self.assertIsNone(from_orders(2, 0, ((), (), ()), ((), (), ())))
        self.assertIsNone(from_orders(2, 0, ((0,), (1,), ()), ((0,), (1,), ())))
        self.assertIsNone(from_orders(2, 0, ((1, 1), (), ()), ((0, 1), (), ())))
        self.assertIsNone(from_orders(2, 0, ((1,), (1,), ()), ((0,), (1,), ())))
        self.assertIsNone(from_orders(2, 0, ((1, 0), (), ()), ((0, 1), (), ())))
        self.assertIsNone(from_orders(2, 1, ((2,), (3,), ()), ((0,), (1,), ())))
        self.assertIsNone(from_orders(2, 0, ((1,), (2,), (3,)), ((0,), (1,), (0,))))
        self.assertIsNone(from_orders(1, 0, ((1,), (2,), ()), ((0,), (0,), ())))
        four = ((), (1, 4), (2,), (3,))
        self.assertEqual(
            from_orders(4, 0, four, ((), (0, 3), (2,), (1,))), (4, (0, 0, 0, 0, 0, 1, 1, 1, 4, 0, 0, 2, 2, 0, 3, 3, 3)))

    def test_orders_longer_than_an_arm_have_no_places(self):
        with self.assertRaises(BadPlaces):
            from_orders(1, 0, ((1, 2), (), ()), ((0, 0), (), ()))
        with self.assertRaises(BadPlaces):
            from_orders(2, 0, ((1, 2), (), ()), ((1, 0), (), ()))
        with self.assertRaises(BadPlaces):
            from_orders(2, 0, ((1, 2), (), ()), ((1, 1), (), ()))
        with self.assertRaises(BadPlaces):
            from_orders(1, 0, ((1,), (), ()), ((1,), (), ()))

    def test_wrong_inputs(self):
        for function in (borders, orders, hub_land, land_pairs):
            wrong.check_wrong(self, function, wrong.chart())
        wrong.check_wrong(self, neighbors, wrong.chart(), wrong.land())
        wrong.check_wrong(self, from_orders, wrong.length(), wrong.land(0, 4), wrong.orders(), wrong.places())


if __name__ == "__main__":
    unittest.main()
