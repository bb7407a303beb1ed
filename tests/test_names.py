import unittest
from itertools import permutations

from starlands.errors import BadMap, BadOrders
from starlands.names import alike, form, own_turns, renamed, turned
from tests import plain, wrong

CHART = (3, (0, 0, 0, 0, 0, 0, 1))
OTHER = (3, (1, 1, 0, 1, 1, 1, 1))


def with_names(chart, names):
    return (chart[0], tuple(names[land] for land in chart[1]))


def with_places(chart, places):
    """The map cell by cell: each arm's cells go to its new place."""
    length = plain.length_of(chart)
    cells = list(chart[1])
    for arm, place in enumerate(places):
        for step in range(length):
            cells[1 + place * length + step] = chart[1][1 + arm * length + step]
    return (chart[0], tuple(cells))


def all_orders(chart):
    """All maps that a map can be renamed and turned to be, one for each pair of names and places."""
    for places in permutations(range(chart[0])):
        there = with_places(chart, places)
        for names in permutations(range(plain.lands_of(chart))):
            yield with_names(there, names)


class NamesTest(unittest.TestCase):
    def test_document(self):
        got = [renamed(CHART, (1, 0)), turned(CHART, (2, 1, 0)), alike(CHART, OTHER), form(OTHER), own_turns(CHART)]
        self.assertEqual(got, [(3, (1, 1, 1, 1, 1, 1, 0)), (3, (0, 0, 1, 0, 0, 0, 0)), True, CHART, 2])

    def test_renamed(self):
        for chart in plain.every_some_map(4):
            for names in permutations(range(plain.lands_of(chart))):
                there = renamed(chart, names)
                self.assertEqual(there, with_names(chart, names))
                self.assertTrue(plain.is_map(there))
                back = tuple(names.index(land) for land in range(len(names)))
                self.assertEqual(renamed(there, back), chart)

    def test_turned(self):
        for chart in plain.every_some_map(4):
            for places in permutations(range(chart[0])):
                there = turned(chart, places)
                self.assertEqual(there, with_places(chart, places))
                for arm, place in enumerate(places):
                    self.assertEqual(plain.rows_of(there)[place], plain.rows_of(chart)[arm])
                back = tuple(places.index(arm) for arm in range(len(places)))
                self.assertEqual(turned(there, back), chart)

    def test_orders_that_are_not_their_own_back(self):
        chart = (3, (0, 0, 0, 0, 1, 2, 2))
        self.assertEqual(renamed(chart, (1, 2, 0)), (3, (1, 1, 1, 1, 2, 0, 0)))
        self.assertEqual(turned(chart, (1, 2, 0)), (3, (0, 2, 2, 0, 0, 0, 1)))
        four = (4, (0, 0, 0, 0, 0, 0, 1, 0, 0, 2, 0, 3, 3))
        self.assertEqual(turned(four, (1, 3, 0, 2)), (4, (0, 0, 0, 2, 0, 0, 0, 0, 3, 3, 0, 0, 1)))

    def test_forms_and_own_turns_by_all_names_and_places(self):
        for chart in plain.every_some_map(3):
            orders = list(all_orders(chart))
            self.assertEqual(form(chart), min(orders))
            self.assertEqual(own_turns(chart), orders.count(chart))

    def test_all_maps_of_small_islands(self):
        for size in ((3, 1, 2), (3, 2, 2), (3, 2, 3), (4, 1, 2), (4, 2, 2), (4, 2, 3), (3, 3, 3)):
            forms = set()
            for chart in plain.all_maps(*size):
                orders = list(all_orders(chart))
                self.assertEqual(form(chart), min(orders))
                self.assertEqual(own_turns(chart), orders.count(chart))
                self.assertEqual(own_turns(chart) * len(set(orders)), len(orders))
                forms.add(form(chart))
            for one in forms:
                self.assertEqual(form(one), one)
            many = sum(len(set(all_orders(one))) for one in forms)
            self.assertEqual(many, len(plain.all_maps(*size)))

    def test_alike_by_all_names_and_places(self):
        for size in ((3, 2, 3), (4, 2, 2)):
            for one in plain.all_maps(*size)[::3]:
                orders = set(all_orders(one))
                for other in plain.all_maps(*size):
                    self.assertIs(alike(one, other), other in orders)

    def test_alike_on_greater_islands(self):
        seen = set()
        for size in plain.SIZES:
            maps = plain.some_maps(*size, 6)
            for at, one in enumerate(maps[:4]):
                orders = list(all_orders(one))
                for other in maps + (orders[(7 * at + 5) % len(orders)], orders[-1]):
                    self.assertIs(alike(one, other), other in orders)
                    seen.add(other in orders)
        self.assertEqual(seen, {True, False})

    def test_maps_with_many_own_turns(self):
        self.assertEqual(own_turns((3, (0, 0, 0, 1))), 2)
        self.assertEqual(own_turns((4, (0, 0, 0, 0, 0, 0, 0, 0, 0, 0, 0, 0, 1))), 6)
        star = (4, (0, 0, 0, 1, 0, 0, 2, 0, 0, 3, 0, 0, 0))
        self.assertEqual(own_turns(star), 6)
        whole = (4, (0, 0, 0, 0, 1, 0, 0, 0, 2, 0, 0, 0, 3, 0, 0, 0, 4))
        self.assertEqual((own_turns(whole), form(whole)), (24, whole))
        self.assertEqual(own_turns((3, (0, 0, 0, 0, 1, 2, 2))), 1)

    def test_unlike_islands_or_numbers_of_lands(self):
        for one, other in plain.unlike_pairs():
            self.assertRaises(BadMap, alike, one, other)

    def test_wrong_inputs(self):
        for order in ((2, 0, 1), (0, 1, 2)):
            wrong.check_wrong(self, renamed, wrong.chart(), wrong.order(order))
            wrong.check_wrong(self, turned, wrong.chart(), wrong.order(order))
        wrong.check_wrong(self, alike, wrong.chart(), wrong.like_chart())
        wrong.check_wrong(self, form, wrong.chart())
        wrong.check_wrong(self, own_turns, wrong.chart())

    def test_lands_and_arms_are_not_mixed_up(self):
        four = (4, (0, 0, 0, 0, 0, 0, 0, 0, 1))
        self.assertEqual(turned(four, (3, 2, 1, 0)), (4, (0, 0, 1, 0, 0, 0, 0, 0, 0)))
        self.assertEqual(renamed(four, (1, 0)), (4, (1, 1, 1, 1, 1, 1, 1, 1, 0)))
        for function, order in ((turned, (1, 0)), (turned, (0, 1, 2)), (renamed, (0, 1, 2, 3)), (renamed, (0, 1, 2))):
            self.assertRaises(BadOrders, function, four, order)


if __name__ == "__main__":
    unittest.main()
