import unittest
from itertools import combinations

from starlands.borders import orders
from starlands.classes import class_counts, class_maps, class_size, first_map, great_class, map_count, same_class
from starlands.hubs import is_frozen, own_lands
from tests import plain, wrong


def choices_by_adding(arms, length, many):
    """The numbers of ways to place borders on arms, by borders and bare arms, one arm after the other."""
    ways = {(0, 0): 1}
    row = [1]
    for _ in range(length):
        row = [one + other for one, other in zip([0] + row, row + [0])]
    for _ in range(arms):
        ahead = {}
        for (borders, bare), count in ways.items():
            for more, times in enumerate(row):
                if borders + more <= many:
                    key = (borders + more, bare + (more == 0))
                    ahead[key] = ahead.get(key, 0) + count * times
        ways = ahead
    return ways.get((many, 0), 0) + ways.get((many, 1), 0)


def class_by_adding(arms, length, lands):
    """The number of maps of a class that is not frozen: the other lands come in any order."""
    size = choices_by_adding(arms, length, lands - 1)
    for land in range(2, lands - arms + 1):
        size *= land
    return size if lands >= arms else 0


class ClassesTest(unittest.TestCase):
    def test_document(self):
        chart = (3, (0, 0, 0, 0, 0, 0, 1))
        got = [
            class_maps(chart), class_size((3, (0, 0, 0, 0, 1, 2, 2))), map_count(3, 2, 3), class_counts(3, 2, 3),
            great_class(3, 2, 3), first_map(3, 2, 2), same_class(chart, (3, (0, 0, 0, 0, 0, 1, 1))),
        ]
        self.assertEqual(got, [
            (chart, (3, (0, 0, 0, 0, 0, 1, 1))), 12, 90, (6, 18), 12, chart, True,
        ])

    def test_class_maps_by_walking(self):
        for chart in plain.every_some_map(3):
            maps = tuple(sorted(plain.walk(chart)))
            self.assertEqual(class_maps(chart), maps)
            self.assertEqual(class_size(chart), len(maps))

    def test_same_class_by_walking(self):
        for size in plain.SIZES:
            maps = plain.some_maps(*size, 4)
            for one in maps:
                steps = plain.walk(one)
                for other in maps + tuple(steps)[::max(1, len(steps) // 5)]:
                    self.assertIs(same_class(one, other), other in steps)

    def test_same_class_of_all_pairs(self):
        for size in ((3, 2, 3), (4, 2, 2), (4, 1, 2)):
            maps = plain.all_maps(*size)
            for one in maps:
                for other in maps:
                    self.assertIs(same_class(one, other), other in plain.walk(one))

    def test_unlike_islands_or_lands(self):
        for one, other in plain.unlike_pairs():
            self.assertIs(same_class(one, other), False)

    def test_all_classes_of_an_island(self):
        for size in plain.SIZES:
            if map_count(*size) > 2100:
                continue
            left = set(plain.all_maps(*size))
            counts = [0, 0]
            while left:
                chart = min(left)
                maps = plain.walk(chart)
                counts[plain.frozen(chart)] += 1
                self.assertEqual(len(maps), class_size(chart))
                if not plain.frozen(chart):
                    self.assertEqual(len(maps), great_class(*size))
                left -= set(maps)
            self.assertEqual(class_counts(*size), tuple(counts))

    def test_class_counts_by_orders_and_own_lands(self):
        for size in plain.SIZES:
            frozen, warm = set(), set()
            for chart in plain.all_maps(*size):
                if plain.frozen(chart):
                    frozen.add((chart[1][0], plain.order_of(chart)[0]))
                else:
                    warm.add(tuple(row[-1] for row in plain.rows_of(chart)))
            self.assertEqual(class_counts(*size), (len(warm), len(frozen)))
            for chart in plain.some_maps(*size, 3):
                kept = {(is_frozen(some), own_lands(some)) for some in plain.walk(chart)}
                self.assertEqual(kept, {(is_frozen(chart), own_lands(chart))})
                if is_frozen(chart):
                    self.assertEqual({orders(some) for some in plain.walk(chart)}, {orders(chart)})

    def test_numbers_of_all_maps(self):
        for size in plain.SIZES:
            maps = plain.all_maps(*size)
            self.assertEqual(map_count(*size), len(maps))
            self.assertEqual(first_map(*size), maps[0])
        self.assertEqual(map_count(4, 4, 5), 218400)

    def test_great_class_is_that_of_the_maps(self):
        for size in plain.SIZES:
            warm = [chart for chart in plain.some_maps(*size, 3) if not plain.frozen(chart)]
            self.assertEqual(great_class(*size), len(plain.walk(warm[0])) if warm else 0)
        self.assertEqual((great_class(4, 4, 5), great_class(3, 4, 5), great_class(4, 3, 3)), (1408, 984, 0))

    def test_great_class_of_greater_islands(self):
        for arms, length, lands in ((5, 4, 5), (5, 5, 6), (6, 5, 6), (3, 5, 6), (7, 2, 3), (4, 6, 7)):
            size = 0
            for cut in combinations(range(arms * length), lands - 1):
                size += len({place // length for place in cut}) >= arms - 1
            for land in range(2, lands - arms + 1):
                size *= land
            self.assertEqual(great_class(arms, length, lands), size if lands >= arms else 0)

    def test_great_class_by_adding(self):
        for arms in range(3, 13):
            for length in (1, 2, 9, 10, 11, 12, 13, 29, 30):
                for lands in range(2, length + 2):
                    self.assertEqual(great_class(arms, length, lands), class_by_adding(arms, length, lands))

    def test_great_class_at_its_ends(self):
        self.assertEqual(great_class(3, 1, 2), 0)
        self.assertEqual(great_class(12, 1, 2), 0)
        self.assertEqual(great_class(12, 30, 11), 0)
        self.assertEqual(great_class(12, 30, 12), 12 * 30 ** 11)
        self.assertEqual(great_class(12, 30, 31), class_by_adding(12, 30, 31))
        self.assertEqual(great_class(3, 30, 3), 3 * 30 ** 2)

    def test_wrong_inputs(self):
        wrong.check_wrong(self, same_class, wrong.chart(), wrong.chart())
        wrong.check_wrong(self, class_maps, wrong.chart())
        wrong.check_wrong(self, class_size, wrong.chart())
        for function in (map_count, class_counts, first_map):
            wrong.check_wrong(self, function, wrong.arms(), wrong.length(), wrong.lands())
        wrong.check_wrong(self, great_class, wrong.arms(3, 12), wrong.length(2, 30), wrong.lands())
        wrong.check_wrong(self, great_class, wrong.arms(12, 12), wrong.length(30, 30), wrong.lands(31, 31))
        wrong.check_wrong(self, map_count, wrong.arms(4), wrong.length(4), wrong.lands(5, 5))


if __name__ == "__main__":
    unittest.main()
