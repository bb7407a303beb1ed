import unittest
from functools import lru_cache

from starlands.hands import area_play, can_hold, hold_takings, least_hold
from tests import plain, wrong

CHART = (3, (0, 0, 0, 0, 0, 0, 1))
WARM = (3, (0, 0, 0, 0, 1, 2, 2))
FULL = (3, (0, 0, 0, 1, 1, 2, 2))
ALONE = (3, (0, 0, 0, 1))


@lru_cache(None)
def plays(chart):
    """All that a hand can make of a map; the map itself if it must pass."""
    return [plain.behind(chart, taking) for taking in plain.all_takings(chart)] or [chart]


@lru_cache(None)
def holds(chart, land, many, hand=0):
    """Whether the land can be made to hold the hub, by all plays of so many turns."""
    if chart[1][0] == land:
        return True
    if many == 0:
        return False
    pick = any if hand == 0 else all
    return pick([holds(other, land, many - 1, 1 - hand) for other in plays(chart)])


def area(chart, land, many, hand=0):
    """The area behind all turns, by all plays."""
    if many == 0:
        return chart[1].count(land)
    pick = max if hand == 0 else min
    return pick([area(other, land, many - 1, 1 - hand) for other in plays(chart)])


def first_least(chart, land):
    return next((many for many in range(7) if holds(chart, land, many)), None)


def begins(chart, land, many):
    """The takings with which the first hand can begin."""
    return tuple(
        taking for taking in plain.all_takings(chart)
        if chart[1][0] == land or holds(plain.behind(chart, taking), land, many - 1, 1)
    )


def lands(chart):
    return range(plain.lands_of(chart))


class HandsTest(unittest.TestCase):
    def test_document(self):
        got = [can_hold(WARM, 1, 1), least_hold(CHART, 1), hold_takings(CHART, 0, 1), area_play(CHART, 1, 1)]
        self.assertEqual(got, [False, None, ((1, 5),), 2])

    def check_hold(self, chart, land, most):
        for many in range(most + 1):
            self.assertIs(can_hold(chart, land, many), holds(chart, land, many), (chart, land, many))
        for many in range(1, most + 1):
            self.assertEqual(hold_takings(chart, land, many), begins(chart, land, many), (chart, land, many))
        if most == 6:
            self.assertEqual(least_hold(chart, land), first_least(chart, land), (chart, land))

    def test_whole_classes_of_small_islands(self):
        for maps in plain.classes_up_to(30):
            for chart in maps[::2] + maps[-1:]:
                for land in lands(chart):
                    self.check_hold(chart, land, 6)

    def test_maps_of_greater_islands(self):
        for size in plain.SIZES[5:]:
            for chart in plain.some_maps(*size, 1)[::2]:
                for land in (chart[1][0], chart[1][-1]):
                    self.check_hold(chart, land, 6 if size[2] < 5 else 3)

    def test_least_hold_of_greater_islands(self):
        seen = set()
        for size in plain.SIZES[5:]:
            for chart in plain.some_maps(*size, 2):
                land = (chart[1][1] + 1) % size[2]
                seen.add(first_least(chart, land))
                self.assertEqual(least_hold(chart, land), first_least(chart, land))
        # Walking all classes once, outside the tests, found no map in which more turns than one help.
        self.assertEqual(seen, {0, 1, None})

    def test_the_hub_at_once_and_by_one_taking(self):
        for land in range(3):
            self.assertEqual([can_hold(FULL, land, many) for many in range(7)], [land == 0] + [True] * 6)
            self.assertEqual(least_hold(FULL, land), int(land > 0))
        self.assertEqual(hold_takings(FULL, 1, 1), ((1, 0),))
        self.assertEqual(hold_takings(FULL, 2, 1), ((2, 0),))
        self.assertEqual([hold_takings(WARM, 1, many) for many in range(1, 7)], [()] * 6)

    def test_a_land_that_holds_the_hub_already(self):
        for chart in plain.every_some_map(1):
            hub = chart[1][0]
            self.assertIs(can_hold(chart, hub, 0), True)
            self.assertEqual(least_hold(chart, hub), 0)
            for many in (1, 2):
                self.assertEqual(hold_takings(chart, hub, many), plain.all_takings(chart))
        for many in range(1, 7):
            self.assertEqual(hold_takings(FULL, 0, many), ((0, 3), (0, 5), (1, 0), (2, 0)))

    def test_hands_that_can_make_no_taking(self):
        for chart in (ALONE, (4, (0, 0, 0, 1, 2, 0, 0, 0, 0)), (3, (2, 0, 1, 2, 2, 2, 2))):
            self.assertEqual(plain.all_takings(chart), ())
            for land in lands(chart):
                holder = land == chart[1][0]
                self.assertEqual([can_hold(chart, land, many) for many in range(7)], [holder] * 7)
                self.assertEqual(least_hold(chart, land), 0 if holder else None)
                self.assertEqual([hold_takings(chart, land, many) for many in range(1, 7)], [()] * 6)
                self.assertEqual([area_play(chart, land, many) for many in range(5)], [chart[1].count(land)] * 5)

    def test_area_by_all_plays(self):
        for maps in plain.classes_up_to(30):
            for chart in maps[::3] + maps[-1:]:
                for land in lands(chart):
                    for many in range(5):
                        self.assertEqual(area_play(chart, land, many), area(chart, land, many), (chart, land, many))

    def test_area_on_greater_islands(self):
        for size in plain.SIZES[5:]:
            for at, chart in enumerate(plain.some_maps(*size, 1)):
                land = at % size[2]
                for many in (0, 1, 2, 3 + at % 2):
                    self.assertEqual(area_play(chart, land, many), area(chart, land, many), (chart, land, many))

    def test_hands_by_turns(self):
        self.assertEqual([area_play(CHART, 1, many) for many in range(5)], [1, 2, 1, 2, 1])
        self.assertEqual([area_play(CHART, 0, many) for many in range(5)], [6, 5, 6, 5, 6])

    def test_wrong_inputs(self):
        wrong.check_wrong(self, can_hold, wrong.chart(), wrong.land(), wrong.count(2, 0, 6))
        wrong.check_wrong(self, least_hold, wrong.chart(), wrong.land())
        wrong.check_wrong(self, hold_takings, wrong.chart(), wrong.land(), wrong.count(2, 1, 6))
        wrong.check_wrong(self, area_play, wrong.chart(), wrong.land(), wrong.count(2, 0, 4))


if __name__ == "__main__":
    unittest.main()
