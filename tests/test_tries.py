import unittest
from itertools import product

from starlands.errors import BadMap, BadTaking, BadTries
from starlands.takings import done
from starlands.tries import made_of, order_free, tried, tried_rest
from tests import plain, wrong

CHART = (3, (0, 0, 0, 0, 0, 0, 1))
THERE = (3, (0, 0, 0, 0, 0, 1, 1))
WARM = (3, (0, 0, 0, 0, 1, 2, 2))
FULL = (3, (0, 0, 0, 1, 1, 2, 2))
ALONE = (3, (0, 0, 0, 1))


def one_by_one(chart, tries):
    """The map behind the tries, and those that are made, taking by taking."""
    row = []
    for taking in tries:
        if plain.can(chart, taking):
            chart = plain.behind(chart, taking)
            row.append(taking)
    return chart, tuple(row)


def rest_of(chart, tries):
    """The least numbers such that the maps behind all tries done so often, and so many times more, are equal."""
    maps = [chart]
    while maps.count(maps[-1]) == 1:
        maps.append(one_by_one(maps[-1], tries)[0])
    first = maps.index(maps[-1])
    return first, len(maps) - 1 - first


def all_pairs(chart):
    return list(product(range(plain.lands_of(chart)), range(len(chart[1]))))


def some_tries(chart, many, seed):
    numbers = plain.Numbers(seed)
    return tuple(numbers.pick(all_pairs(chart)) for _ in range(many))


def lively_tries(chart, many, seed):
    """Tries of which most can be made when they come."""
    numbers = plain.Numbers(seed)
    tries = []
    while len(tries) < many:
        ready = plain.all_takings(chart)
        taking = numbers.pick(ready if ready and numbers.below(4) else all_pairs(chart))
        chart = one_by_one(chart, (taking,))[0]
        tries.append(taking)
    return tuple(tries)


class TriesTest(unittest.TestCase):
    def test_document(self):
        got = [
            tried(CHART, ((1, 0), (1, 5))), made_of(CHART, ((1, 0), (1, 5))), tried_rest(CHART, ((1, 5), (0, 5))),
            order_free(WARM, (0, 5), (1, 3)),
        ]
        self.assertEqual(got, [THERE, ((1, 5),), (0, 1), True])

    def check_tries(self, chart, tries):
        behind, row = one_by_one(chart, tries)
        self.assertEqual(tried(chart, tries), behind)
        self.assertEqual(made_of(chart, tries), row)
        self.assertEqual(done(chart, row), behind)
        self.assertEqual(tried_rest(chart, tries), rest_of(chart, tries))
        return len(row)

    def test_tries_one_by_one(self):
        made = set()
        for at, chart in enumerate(plain.every_some_map(6)):
            for many in (1, 2, 3, 7, 20, 39, 40):
                self.check_tries(chart, some_tries(chart, many, 50 * at + many))
                made.add(self.check_tries(chart, lively_tries(chart, many, 50 * at + many)))
        self.assertTrue({0, 1, 2, 3, 19, 30} <= made)

    def test_all_short_tries_of_small_maps(self):
        for chart in (CHART, WARM, FULL, (3, (0, 1, 0, 0)), (4, (1, 1, 0, 1, 1))):
            for many in (1, 2):
                for tries in product(all_pairs(chart), repeat=many):
                    self.check_tries(chart, tries)

    def test_no_tries(self):
        for chart in plain.every_some_map(1) + [ALONE]:
            self.assertEqual((tried(chart, ()), made_of(chart, ()), tried_rest(chart, ())), (chart, (), (0, 1)))

    def test_40_tries_and_41(self):
        there_and_back = ((1, 5), (0, 5))
        self.assertEqual(made_of(CHART, there_and_back * 20), there_and_back * 20)
        self.assertEqual(tried(CHART, there_and_back * 20), CHART)
        for tries in (there_and_back * 20 + ((1, 5),), (None,) * 41, there_and_back * 30):
            for function in (tried, made_of, tried_rest):
                with self.assertRaises(BadTries) as caught:
                    function(CHART, tries)
                self.assertIsNone(caught.exception.index)

    def test_the_first_that_is_no_taking(self):
        for tries, index in (
            ((None,), 0), (((1, 5), (2, 5)), 1), (((1, 0), (1, 0), (1, 7), None), 2), (((1, 5),) * 39 + (0,), 39),
            (((True, 5),), 0), (((1, 5), (1, False)), 1), (((1, 5), [1, 5]), 1), (((1, 5, 0),), 0), ((1, 5), 0),
        ):
            for function in (tried, made_of, tried_rest):
                with self.assertRaises(BadTries) as caught:
                    function(CHART, tries)
                self.assertEqual(caught.exception.index, index)
                self.assertRaises(BadMap, function, None, tries)

    def test_tries_of_which_none_can_be_made(self):
        for chart in plain.every_some_map(2) + [ALONE]:
            ready = plain.all_takings(chart)
            dead = tuple(taking for taking in all_pairs(chart) if taking not in ready)[:40]
            self.assertEqual((tried(chart, dead), made_of(chart, dead)), (chart, ()))
            self.assertEqual(tried_rest(chart, dead), (0, 1))

    def test_rests(self):
        seen = set()
        for at in range(400):
            maps = plain.greatest_class(*[(3, 2, 3), (3, 3, 4), (4, 3, 4), (3, 4, 4)][at % 4])
            chart = maps[at % len(maps)]
            tries = some_tries(chart, 3 + at % 38, at)
            rest = rest_of(chart, tries)
            self.assertEqual(tried_rest(chart, tries), rest)
            seen.add(rest)
        self.assertTrue({(0, 1), (1, 1), (2, 1), (3, 1)} <= seen)

    def test_rests_of_more_than_one_map(self):
        turning = ((2, 1), (2, 5), (1, 0), (0, 1), (1, 1), (0, 0), (0, 5), (0, 1), (2, 0))
        chart = (3, (2, 0, 0, 1, 1, 2, 2))
        self.assertEqual(tried_rest(chart, turning), (0, 2))
        self.assertNotEqual(tried(chart, turning), chart)
        self.assertEqual(tried(chart, turning * 2), chart)
        turning = turning[-1:] + turning[:-1]
        self.assertEqual(tried_rest((3, (1, 0, 0, 1, 1, 1, 2)), turning), (1, 2))
        for some in plain.walk(chart):
            self.assertEqual(tried_rest(some, turning), rest_of(some, turning))

    def test_rests_by_hand(self):
        self.assertEqual(tried_rest(CHART, ((1, 5),)), (1, 1))
        self.assertEqual(tried_rest(THERE, ((1, 5),)), (0, 1))
        self.assertEqual(tried_rest(THERE, ((1, 5), (0, 5))), (1, 1))
        self.assertEqual(tried_rest(FULL, ((0, 0), (2, 0), (1, 0))), (1, 1))

    def test_order_free(self):
        seen = set()
        for chart in [CHART, WARM, FULL, ALONE] + list(plain.walk(FULL)) + plain.every_some_map(1)[:40]:
            for one, other in product(all_pairs(chart)[::1 if len(chart[1]) < 8 else 3], repeat=2):
                first = one_by_one(chart, (one, other))
                second = one_by_one(chart, (other, one))
                free = len(first[1]) == len(second[1]) == 2 and first[0] == second[0]
                self.assertIs(order_free(chart, one, other), free)
                self.assertIs(order_free(chart, other, one), free)
                seen.add((free, len(first[1]), len(second[1])))
        self.assertTrue({(True, 2, 2), (False, 2, 2), (False, 2, 1), (False, 1, 1), (False, 0, 0)} <= seen)

    def test_order_free_of_all_takings_that_can_be_made(self):
        for maps in plain.classes_up_to(108):
            for chart in maps[::9]:
                for one, other in product(plain.all_takings(chart), repeat=2):
                    ends = []
                    for row in ((one, other), (other, one)):
                        behind, made = one_by_one(chart, row)
                        ends.append(behind if len(made) == 2 else row)
                    self.assertIs(order_free(chart, one, other), ends[0] == ends[1] and one != other)

    def test_two_alike_takings_and_takings_that_cannot_be_made(self):
        for chart in (WARM, FULL, CHART, THERE):
            for taking in all_pairs(chart):
                self.assertIs(order_free(chart, taking, taking), False)
        # One cell for two takers: both can be made in either order, but the last one keeps it.
        self.assertIs(order_free(FULL, (1, 0), (2, 0)), False)
        self.assertIs(order_free(WARM, (0, 5), (2, 0)), False)
        self.assertIs(order_free(WARM, (0, 0), (0, 0)), False)

    def test_takings_that_are_none(self):
        for taking in (None, (3, 0), (0, 7), (0,), [0, 5], (True, 5), (0, 0, 0), 0, "05", {0: 5}):
            self.assertRaises(BadTaking, order_free, WARM, taking, (0, 5))
            self.assertRaises(BadTaking, order_free, WARM, (0, 5), taking)

    def test_wrong_inputs(self):
        for function in (tried, made_of, tried_rest):
            wrong.check_wrong(self, function, wrong.chart(), wrong.tries())
        wrong.check_wrong(self, order_free, wrong.chart(), wrong.taking(), wrong.taking())


if __name__ == "__main__":
    unittest.main()
