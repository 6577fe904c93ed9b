"""Plans of a store: its least reads and safe orders, each looked for once."""

from leastreads.choices import Choices
from leastreads.errors import Unsafe
from leastreads.ground import combination_for, units_of
from leastreads.reads import Reads, least_seeing
from leastreads.writes import safe_order, write_wishes


class Plans:
    """The least reads and safe orders for a table and Prices, by the pieces that are gone."""

    def __init__(self, table, prices):
        self._table = table
        self._prices = prices
        self._choices = None
        self._told = {}

    def for_units(self, gone):
        """Return the Reads of all units."""
        key = ("units", gone)
        if key not in self._told:
            self._told[key] = self._reads(units_of(self._table), gone)
        return self._told[key]

    def for_piece(self, piece, gone):
        """Return the Reads of all parts of a piece."""
        key = ("piece", piece, gone)
        if key not in self._told:
            self._told[key] = self._reads([self._table[spot] for spot in self._table.spots_of((piece,))], gone)
        return self._told[key]

    def for_write(self, changed, gone):
        """Return the Reads of a write."""
        key = ("write", changed, gone)
        if key not in self._told:
            self._told[key] = self._reads(write_wishes(self._table, changed, gone), gone)
        return self._told[key]

    def order_for_write(self, changed, gone):
        """Return the first safe order for 1, or, if there is none, that for 0; raise Unsafe if there is none either."""
        key = ("order", changed, gone)
        if key not in self._told:
            word, told = safe_order(self._table, changed, 1, gone)
            if word != "order":
                word, told = safe_order(self._table, changed, 0, gone)
            if word != "order":
                raise Unsafe(told)
            self._told[key] = told
        return self._told[key]

    def _reads(self, wishes, gone):
        """Return the least Reads from the pieces that are not gone, without blinds: a store hands out no papers."""
        if self._choices is None:
            self._choices = Choices(self._table, self._prices)
        price, spots = least_seeing(self._choices, self._choices.sight.by_sums(wishes), gone)
        return Reads(self._table, spots, price, [combination_for(self._table, spots, item) for item in wishes], ())
