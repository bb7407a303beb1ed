import unittest
from itertools import combinations

from starlands.classes import map_count
from starlands.errors import BadLands, BadMap, BadPairs
from starlands.touch import always_touch, ever_touch
from starlands.trees import ends, ever_trees, tree_count, tree_maps
from tests import plain, wrong

CHART = (3, (0, 0, 0, 0, 0, 0, 1))
WARM = (3, (0, 0, 0, 0, 1, 2, 2))
FULL = (3, (0, 0, 0, 1, 1, 2, 2))
ALONE = (3, (0, 0, 0, 1))


def tree_of(chart):
    return tuple(plain.touching_pairs(chart))


def land_pairs_of(lands):
    return list(combinations(range(lands), 2))


def trees_of(lands):
    """All tuples of one pair less than lands, those that are no trees, too."""
    return list(combinations(land_pairs_of(lands), lands - 1))


def is_tree(lands, pairs):
    met = {0}
    for _ in pairs:
        met |= {land for pair in pairs if met & set(pair) for land in pair}
    return len(met) == lands and len(pairs) == lands - 1


class TreesTest(unittest.TestCase):
    def test_document(self):
        got = [ends(WARM), ever_trees(CHART), len(tree_maps(CHART, ((0, 1),))), tree_count(3, 2, 2, ((0, 1),))]
        self.assertEqual(got, [(1, 2), (((0, 1),),), 2, 12])

    def check_class(self, maps, chart):
        trees = sorted({tree_of(some) for some in maps})
        self.assertEqual(ever_trees(chart), tuple(trees))
        for pairs in trees[::max(1, len(trees) // 5)]:
            self.assertEqual(tree_maps(chart, pairs), tuple(some for some in sorted(maps) if tree_of(some) == pairs))

    def test_classes(self):
        for maps in plain.classes_up_to(208):
            self.check_class(maps, maps[len(maps) // 2])

    def test_greater_classes(self):
        for size in ((4, 4, 4), (3, 4, 5)):
            maps = plain.greatest_class(*size)
            self.check_class(maps, maps[9])

    def test_all_told_pairs_of_a_class(self):
        for chart in (WARM, FULL, plain.greatest_class(3, 3, 4)[0]):
            maps = sorted(plain.walk(chart))
            pairs = land_pairs_of(plain.lands_of(chart))
            for many in range(len(pairs) + 1):
                for some in combinations(pairs, many):
                    found = tuple(other for other in maps if tree_of(other) == some)
                    self.assertEqual(tree_maps(chart, some), found)
                    self.assertEqual(some in ever_trees(chart), found != ())

    def test_each_map_has_a_tree(self):
        for chart in plain.every_some_map(1):
            lands = plain.lands_of(chart)
            trees = ever_trees(chart)
            self.assertTrue(all(is_tree(lands, pairs) for pairs in trees))
            met = sorted({pair for pairs in trees for pair in pairs})
            self.assertEqual(ever_touch(chart), tuple(met))
            in_all = [pair for pair in met if all(pair in pairs for pairs in trees)]
            self.assertEqual(always_touch(chart), tuple(in_all))

    def test_counts_of_all_maps(self):
        for size in plain.SIZES:
            if map_count(*size) > 40000:
                continue
            counts = {}
            for chart in plain.all_maps(*size):
                counts[tree_of(chart)] = counts.get(tree_of(chart), 0) + 1
            for pairs in trees_of(size[2]):
                self.assertEqual(tree_count(*size, pairs), counts.get(pairs, 0), (size, pairs))

    def test_counts_of_the_greatest_islands(self):
        for size in ((3, 4, 5), (4, 4, 4), (4, 4, 5)):
            self.assertEqual(sum(tree_count(*size, pairs) for pairs in trees_of(size[2])), map_count(*size))
        # Each of the lands 1, 2 and 3 has an arm, and begins at one of its 3 cells.
        self.assertEqual(tree_count(3, 3, 4, ((0, 1), (0, 2), (0, 3))), 6 * 3 ** 3)
        # A land cannot touch four others on an island of three arms.
        star = tuple((0, land) for land in range(1, 5))
        self.assertEqual(tree_count(3, 4, 5, star), 0)
        self.assertEqual(tree_count(4, 4, 5, star), 4 ** 4 * 24)

    def test_pairs_that_are_no_tree(self):
        for size in plain.SIZES:
            for chart in plain.some_maps(*size, 1)[:1]:
                pairs = land_pairs_of(size[2])
                for many in range(min(len(pairs), 4) + 1):
                    for some in list(combinations(pairs, many))[::7]:
                        if not is_tree(size[2], some):
                            self.assertEqual((tree_maps(chart, some), tree_count(*size, some)), ((), 0))
                every = tuple(pairs)
                if size[2] > 2:
                    self.assertEqual((tree_maps(chart, every), tree_count(*size, every)), ((), 0))
        # A round of three lands and one beside it: as many pairs as a tree has.
        self.assertEqual(tree_count(3, 3, 4, ((0, 1), (0, 2), (1, 2))), 0)

    def test_no_pairs(self):
        for size in plain.SIZES:
            self.assertEqual(tree_count(*size, ()), 0)
        for chart in (WARM, CHART, ALONE):
            self.assertEqual(tree_maps(chart, ()), ())

    def test_a_class_of_one_map(self):
        self.assertEqual((ever_trees(ALONE), tree_maps(ALONE, ((0, 1),))), ((((0, 1),),), (ALONE,)))

    def test_ends(self):
        for chart in plain.every_some_map():
            pairs = tree_of(chart)
            lands = range(plain.lands_of(chart))
            lone = [land for land in lands if sum(land in pair for pair in pairs) == 1]
            self.assertEqual(ends(chart), tuple(lone))
        for size in plain.SMALL_SIZES:
            for chart in plain.all_maps(*size):
                if size[2] == 2:
                    self.assertEqual(ends(chart), (0, 1))
                else:
                    self.assertTrue(2 <= len(ends(chart)) < size[2])

    def test_pairs_that_are_none(self):
        wrong_pairs = [
            ((1, 0),), ((0, 0),), ((0, 2),), ((0, 1), (0, 1)), [(0, 1)], ([0, 1],), ((0, True),), None, ((0,),),
        ]
        for pairs in wrong_pairs:
            self.assertRaises(BadPairs, tree_maps, CHART, pairs)
            self.assertRaises(BadPairs, tree_count, 3, 2, 2, pairs)
            self.assertRaises(BadMap, tree_maps, None, pairs)
            self.assertRaises(BadLands, tree_count, 3, 2, 4, pairs)
        for pairs in (((1, 2), (0, 1)), ((0, 2), (0, 1)), ((0, 1), (0, 1), (0, 2)), ((0, 1), (0, 3))):
            self.assertRaises(BadPairs, tree_maps, WARM, pairs)
            self.assertRaises(BadPairs, tree_count, 3, 2, 3, pairs)

    def test_wrong_inputs(self):
        for function in (ever_trees, ends):
            wrong.check_wrong(self, function, wrong.chart())
        wrong.check_wrong(self, tree_maps, wrong.chart(), wrong.pairs())
        wrong.check_wrong(self, tree_count, wrong.arms(), wrong.length(), wrong.lands(), wrong.pairs())


if __name__ == "__main__":
    unittest.main()
