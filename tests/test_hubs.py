import unittest

from starlands.hubs import bare_arms, ever_hub, hub_takings, is_frozen, lands_on, other_lands, own_lands
from tests import plain, wrong


class HubsTest(unittest.TestCase):
    def test_document(self):
        warm = (3, (0, 0, 0, 0, 1, 2, 2))
        got = [
            hub_takings((3, (0, 0, 0, 1, 1, 2, 2))), is_frozen(warm), bare_arms(warm), lands_on(warm), own_lands(warm),
            other_lands(warm), ever_hub(warm), own_lands((3, (0, 0, 0, 0, 0, 0, 1))),
        ]
        self.assertEqual(got, [((1, 0), (2, 0)), False, 1, (0, 1, 1), (0, 1, 2), (), (0, 1, 2), None])

    def check_map(self, chart):
        hub = chart[1][0]
        rows = plain.rows_of(chart)
        bare = [row for row in rows if set(row) == {hub}]
        self.assertEqual(bare_arms(chart), len(bare))
        self.assertIs(is_frozen(chart), len(bare) >= 2)
        self.assertEqual(lands_on(chart), tuple(len(set(row) - {hub}) for row in rows))
        self.assertEqual(hub_takings(chart), tuple(taking for taking in plain.all_takings(chart) if taking[1] == 0))
        if len(bare) >= 2:
            self.assertIsNone(own_lands(chart))
            self.assertIsNone(other_lands(chart))
        else:
            own = tuple(row[-1] for row in rows)
            self.assertEqual(own_lands(chart), own)
            self.assertEqual(len(set(own)), len(rows))
            self.assertEqual(other_lands(chart), tuple(sorted(set(range(plain.lands_of(chart))) - set(own))))
        self.assertEqual(ever_hub(chart), tuple(range(plain.lands_of(chart))) if len(bare) < 2 else (hub,))

    def test_all_small_maps(self):
        for size in plain.SMALL_SIZES:
            for chart in plain.all_maps(*size):
                self.check_map(chart)

    def test_some_maps_of_all_sizes(self):
        for chart in plain.every_some_map(30):
            self.check_map(chart)

    def test_ever_hub_and_own_lands_by_walking(self):
        for size in plain.SIZES:
            for chart in plain.some_maps(*size, 3):
                maps = plain.walk(chart)
                self.assertEqual(ever_hub(chart), tuple(sorted({some[1][0] for some in maps})))
                for some in list(maps)[::7]:
                    self.assertEqual(own_lands(some), own_lands(chart))
                    self.assertEqual(other_lands(some), other_lands(chart))

    def test_by_hand(self):
        five = (3, (2, 2, 4, 4, 4, 0, 0, 0, 0, 2, 3, 3, 1))
        self.assertEqual(own_lands(five), (4, 0, 1))
        self.assertEqual(other_lands(five), (2, 3))
        self.assertEqual(lands_on(five), (1, 1, 2))
        self.assertEqual(bare_arms(five), 0)
        frozen = (4, (1, 1, 1, 1, 1, 0, 0, 1, 2))
        self.assertEqual((bare_arms(frozen), is_frozen(frozen)), (2, True))
        self.assertEqual((ever_hub(frozen), hub_takings(frozen)), ((1,), ()))
        self.assertEqual((own_lands(frozen), other_lands(frozen), lands_on(frozen)), (None, None, (0, 0, 1, 1)))

    def test_wrong_inputs(self):
        for function in (hub_takings, is_frozen, bare_arms, lands_on, own_lands, other_lands, ever_hub):
            wrong.check_wrong(self, function, wrong.chart())


if __name__ == "__main__":
    unittest.main()
