"""The errors of the package."""


class LandError(ValueError):
    """The base class of all errors of the package."""


class BadArms(LandError):
    """A number of arms, or an arm, that is not allowed."""


class BadLength(LandError):
    """A length of the arms that is not allowed."""


class BadMap(LandError):
    """A value that is no map, or not one like the map before it."""


class BadCell(LandError):
    """A value that is no cell of the island."""


class BadLand(LandError):
    """A value that is no land."""


class BadRows(LandError):
    """A value that is no tuple of things of one length, as asked for."""


class BadOrders(LandError):
    """A value that is no tuple of orders, or no order, as asked for."""


class BadPlaces(LandError):
    """A value that is no tuple of places of borders that fits the orders."""


class BadTaking(LandError):
    """A value that is no pair of a land and a cell of the map."""


class BadRow(LandError):
    """A value that is no row of the map; the index is that of the first wrong taking, or None."""

    def __init__(self, index):
        super().__init__(f"index {index}")
        self.index = index


class NotMade(LandError):
    """A taking that cannot be made."""


class BadLands(LandError):
    """A number of lands that is not allowed."""


class BadCount(LandError):
    """A count that is not allowed."""


class BadValues(LandError):
    """Values that are not of as many lands and cells as the map has, or not in their range."""


class NotOne(LandError):
    """A map or a land that is not one of those asked for."""


class BadTold(LandError):
    """A value that is no tuple of told cells; the index is that of the first wrong one, or None."""

    def __init__(self, index):
        super().__init__(f"index {index}")
        self.index = index


class BadRule(LandError):
    """A value that is no rule; the index is that of the first wrong pair, or None."""

    def __init__(self, index):
        super().__init__(f"index {index}")
        self.index = index


class BadPrices(LandError):
    """A value that is no tuple of prices."""


class NotText(LandError):
    """A value that is not a string."""


class InvalidText(LandError):
    """A text that is not allowed; the place is that of the first wrong character."""

    def __init__(self, place):
        super().__init__(f"place {place}")
        self.place = place


class NothingToUndo(LandError):
    """There is no taking left to take back."""


class NotFrozen(LandError):
    """A map that is not frozen."""


class BadMaps(LandError):
    """A value that is no tuple of maps of one class; the index is that of the first wrong one, or None."""

    def __init__(self, index):
        super().__init__(f"index {index}")
        self.index = index


class BadAreas(LandError):
    """A value that is no tuple of areas, as asked for."""


class BadPairs(LandError):
    """A value that is no ascending tuple of unlike pairs of lands."""


class BadTries(LandError):
    """A value that is no tuple of tries; the index is that of the first wrong one, or None."""

    def __init__(self, index):
        super().__init__(f"index {index}")
        self.index = index


class BadCells(LandError):
    """A value that is no ascending tuple of unlike cells."""


class TooMany(LandError):
    """There is more of something than the most that is allowed."""

    def __init__(self, most):
        super().__init__(f"most {most}")
        self.most = most
