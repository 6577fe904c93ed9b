"""What reads cost: prices for parts, for whole pieces and for opening pieces."""

from leastreads.basics import MOST_PARTS, MOST_PIECES, all_between, are_spots, has_items, spots_of_parts
from leastreads.errors import InvalidCost, InvalidSpots
from leastreads.tables import Table

GREATEST_PRICE = 1000


def are_prices(value, least, most):
    """Return whether any object is a list or tuple of least to most prices."""
    return has_items(value, least, most) and all_between(value, 0, GREATEST_PRICE)


class Prices:
    """A price for each part, for each piece as a whole, and for opening each piece."""

    def __init__(self, parts, wholes, opens):
        if not has_items(parts, 1, MOST_PIECES) or not all([are_prices(row, 1, MOST_PARTS) for row in parts]):
            raise InvalidCost(parts)
        if not are_prices(wholes, len(parts), len(parts)):
            raise InvalidCost(wholes)
        if not are_prices(opens, len(parts), len(parts)):
            raise InvalidCost(opens)
        self._parts = tuple([tuple(row) for row in parts])
        self._wholes = tuple(wholes)
        self._opens = tuple(opens)
        self._spots = spots_of_parts(self._parts)

    @property
    def parts(self):
        """The tuple with the tuple of the prices of its parts for each piece."""
        return self._parts

    @property
    def wholes(self):
        """The tuple with the price as a whole of each piece."""
        return self._wholes

    @property
    def opens(self):
        """The tuple with the price for opening each piece."""
        return self._opens

    def fits(self, table):
        """Return whether any object is a Table with as many pieces and parts."""
        return isinstance(table, Table) and tuple(table) == self._spots

    def __call__(self, spots):
        """Return the cost of some spots."""
        prices = self._part_prices(spots)
        return sum([self._opens[piece] + min(prices[piece], self._wholes[piece]) for piece in prices])

    def paid(self, spots):
        """Return the ascending tuple of the paid spots for some spots."""
        prices = self._part_prices(spots)
        wholes = [piece for piece in prices if self._wholes[piece] <= prices[piece]]
        return tuple([spot for spot in self._spots if spot in spots or spot[0] in wholes])

    def __eq__(self, other):
        return (
            isinstance(other, Prices)
            and self._parts == other._parts
            and self._wholes == other._wholes
            and self._opens == other._opens
        )

    def _part_prices(self, spots):
        """Return the dict from each piece with some of these spots to the sum of their prices."""
        if not are_spots(spots, self._spots):
            raise InvalidSpots(spots)
        prices = {}
        for piece, part in spots:
            prices[piece] = prices.get(piece, 0) + self._parts[piece][part]
        return prices


def expect_prices(table, cost):
    """Raise InvalidCost for any object that is not Prices that fit the table."""
    if not isinstance(cost, Prices) or not cost.fits(table):
        raise InvalidCost(cost)
