"""A realm: a map that is kept, with the takings made in it."""

from starlands.checks import check_chart
from starlands.errors import NothingToUndo
from starlands.takings import done, taken_back


class Realm:
    """Keeps a map and the takings that have not been taken back."""

    def __init__(self, chart):
        check_chart(chart)
        self._maps = [chart]
        self._takings = []

    def take(self, land, cell):
        """Makes a taking; returns the land that loses the cell."""
        taking = (land, cell)
        loser, _ = taken_back(self._maps[-1], taking)
        self._maps.append(done(self._maps[-1], (taking,)))
        self._takings.append(taking)
        return loser

    def chart(self):
        """The map."""
        return self._maps[-1]

    def row(self):
        """The takings that have not been taken back."""
        return tuple(self._takings)

    def hub(self):
        """The lands that held the hub, one after another."""
        return (self._maps[0][1][0],) + tuple([land for land, cell in self._takings if cell == 0])

    def undo(self):
        """Takes back the last taking that has not been taken back."""
        if not self._takings:
            raise NothingToUndo("no taking is left")
        self._maps.pop()
        self._takings.pop()
