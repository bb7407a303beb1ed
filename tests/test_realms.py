import unittest

from starlands.errors import BadMap, BadTaking, NotMade, NothingToUndo
from starlands.realms import Realm
from tests import plain, wrong

FULL = (3, (0, 0, 0, 1, 1, 2, 2))
CHART = (3, (0, 0, 0, 0, 0, 0, 1))
ALONE = (3, (0, 0, 0, 1))


class Told:
    """What a realm should tell, by the takings that have not been taken back."""

    def __init__(self, first):
        self.maps = [first]
        self.row = []

    def take(self, taking):
        self.row.append(taking)
        self.maps.append(plain.behind(self.maps[-1], taking))

    def undo(self):
        self.row.pop()
        self.maps.pop()

    def all(self):
        hubs = [self.maps[0][1][0]] + [land for land, cell in self.row if cell == 0]
        return self.maps[-1], tuple(self.row), tuple(hubs)


def told_by(realm):
    return realm.chart(), realm.row(), realm.hub()


class RealmsTest(unittest.TestCase):
    def test_document(self):
        realm = Realm(FULL)
        got = [realm.take(1, 0), realm.chart(), realm.row(), realm.hub(), realm.undo(), realm.hub()]
        self.assertEqual(got, [0, (3, (1, 0, 0, 1, 1, 2, 2)), ((1, 0),), (0, 1), None, (0,)])

    def test_methods_stand_in_the_class(self):
        for name in ("take", "chart", "row", "hub", "undo"):
            self.assertIn(name, vars(Realm))
        self.assertEqual(Realm.__module__, "starlands.realms")

    def test_takings_and_undos_one_after_another(self):
        hubs = 0
        for at, chart in enumerate(plain.every_some_map(3)):
            numbers = plain.Numbers(at)
            realm, told = Realm(chart), Told(chart)
            for _ in range(60):
                ready = plain.all_takings(realm.chart())
                if told.row and (not ready or numbers.below(3) == 0):
                    self.assertIsNone(realm.undo())
                    told.undo()
                elif ready:
                    land, cell = numbers.pick(ready)
                    self.assertEqual(realm.take(land, cell), told.maps[-1][1][cell])
                    told.take((land, cell))
                self.assertEqual(told_by(realm), told.all())
            hubs = max(hubs, len(realm.hub()))
            while told.row:
                self.assertIsNone(realm.undo())
                told.undo()
                self.assertEqual(told_by(realm), told.all())
            self.assertEqual(told_by(realm), (chart, (), (chart[1][0],)))
            self.assertRaises(NothingToUndo, realm.undo)
        self.assertGreater(hubs, 3)

    def test_nothing_to_undo(self):
        realm = Realm(FULL)
        for _ in range(2):
            self.assertRaises(NothingToUndo, realm.undo)
            self.assertEqual(told_by(realm), (FULL, (), (0,)))
        realm.take(1, 0)
        realm.undo()
        self.assertRaises(NothingToUndo, realm.undo)
        self.assertEqual(told_by(realm), (FULL, (), (0,)))

    def test_a_taking_that_takes_back_is_no_undo(self):
        realm = Realm(FULL)
        self.assertEqual((realm.take(1, 0), realm.take(0, 0), realm.take(2, 0)), (0, 1, 0))
        self.assertEqual(realm.row(), ((1, 0), (0, 0), (2, 0)))
        self.assertEqual(realm.hub(), (0, 1, 0, 2))
        realm.undo()
        self.assertEqual((realm.hub(), realm.chart()), ((0, 1, 0), FULL))

    def test_more_takings_than_a_row_has(self):
        realm = Realm(CHART)
        for _ in range(60):
            self.assertEqual(realm.take(1, 5), 0)
            self.assertEqual(realm.take(0, 5), 1)
        self.assertEqual(realm.row(), ((1, 5), (0, 5)) * 60)
        self.assertEqual((realm.chart(), realm.hub()), (CHART, (0,)))
        for _ in range(120):
            realm.undo()
        self.assertRaises(NothingToUndo, realm.undo)

    def test_a_taking_that_cannot_be_made(self):
        for chart in plain.every_some_map(2) + [ALONE]:
            realm = Realm(chart)
            ready = plain.all_takings(chart)
            if ready:
                realm.take(*ready[0])
            before = told_by(realm)
            there = plain.all_takings(realm.chart())
            for land in range(plain.lands_of(chart)):
                for cell in range(len(chart[1])):
                    if (land, cell) not in there:
                        self.assertRaises(NotMade, realm.take, land, cell)
                        self.assertEqual(told_by(realm), before)

    def test_wrong_takings_leave_the_realm_as_it_was(self):
        realm = Realm(FULL)
        realm.take(1, 0)
        before = told_by(realm)
        for land, cell in ((3, 0), (-1, 0), (0, 7), (0, -1), (True, 0), (0, False), (None, 0), ("0", 0), (0, (0,))):
            self.assertRaises(BadTaking, realm.take, land, cell)
            self.assertEqual(told_by(realm), before)

    def test_realms_do_not_mix(self):
        one, other = Realm(FULL), Realm(FULL)
        one.take(1, 0)
        self.assertEqual(told_by(other), (FULL, (), (0,)))
        other.take(2, 0)
        self.assertEqual((one.row(), other.row()), (((1, 0),), ((2, 0),)))
        row = one.row()
        one.undo()
        self.assertEqual(row, ((1, 0),))

    def test_wrong_inputs(self):
        wrong.check_wrong(self, Realm, wrong.chart())

        def take(land, cell):
            return Realm(wrong.MAP).take(land, cell)
        lands = wrong.integer(1, BadTaking, 0, 2)
        cells = wrong.integer(3, BadTaking, 0, 6)
        wrong.check_wrong(self, take, lands, cells)
        self.assertRaises(BadMap, Realm, (3, (0, 0, 0, 0)))


if __name__ == "__main__":
    unittest.main()
