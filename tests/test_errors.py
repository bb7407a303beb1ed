import unittest

from starlands import errors

PLAIN = (
    "BadArms BadLength BadMap BadCell BadLand BadRows BadOrders BadPlaces BadTaking NotMade BadLands BadCount "
    "BadValues NotOne BadPrices NotText NothingToUndo NotFrozen BadAreas BadPairs BadCells"
).split()
WITH_FIELD = {
    "BadRow": "index", "BadTold": "index", "BadRule": "index", "InvalidText": "place", "BadMaps": "index",
    "BadTries": "index", "TooMany": "most",
}


class ErrorsTest(unittest.TestCase):
    def test_all_are_direct_subclasses(self):
        self.assertEqual(errors.LandError.__bases__, (ValueError,))
        for name in PLAIN + list(WITH_FIELD):
            error = getattr(errors, name)
            self.assertEqual(error.__bases__, (errors.LandError,), name)
            self.assertEqual((error.__name__, error.__module__), (name, "starlands.errors"))

    def test_there_are_no_others(self):
        names = [name for name in vars(errors) if isinstance(getattr(errors, name), type)]
        self.assertEqual(sorted(names), sorted(PLAIN + list(WITH_FIELD) + ["LandError"]))

    def test_plain_ones_are_raised_with_and_without_words(self):
        for name in PLAIN + ["LandError"]:
            error = getattr(errors, name)
            for args in ((), ("words",)):
                with self.assertRaises(errors.LandError):
                    raise error(*args)

    def test_fields_are_set_when_created(self):
        for name, field in WITH_FIELD.items():
            for value in (None, 0, 9):
                self.assertEqual(vars(getattr(errors, name)(value)), {field: value})
                self.assertEqual(vars(getattr(errors, name)(**{field: value})), {field: value})


if __name__ == "__main__":
    unittest.main()
