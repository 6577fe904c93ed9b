"""The least reads by which all wishes can be had."""

from leastreads.basics import are_spots, is_integer
from leastreads.choices import Choices
from leastreads.costs import Prices
from leastreads.errors import InvalidCost, InvalidNumber, InvalidSpots, InvalidStored, InvalidWishes, Lost
from leastreads.ground import are_wishes, combination_for, given_value
from leastreads.nets import Net
from leastreads.points import first_of
from leastreads.tables import is_stored


def expect_cost(table, cost):
    """Raise InvalidCost for any object that is not Prices or a Net that fits the table."""
    if not isinstance(cost, (Prices, Net)) or not cost.fits(table):
        raise InvalidCost(cost)


def expect_question(table, cost, gone, wishes):
    """Raise what least raises for wrong arguments."""
    expect_cost(table, cost)
    if not are_spots(gone, list(table)):
        raise InvalidSpots(gone)
    if not are_wishes(table, wishes) or (isinstance(cost, Net) and len(wishes) > 1):
        raise InvalidWishes(wishes)


class Reads:
    """Spots to be read, their cost, how the wishes are had from them, and the blinds that show that no less do."""

    def __init__(self, table, spots, cost, combinations, blinds):
        self._table = table
        self._spots = tuple(spots)
        self._cost = cost
        self._combinations = tuple(combinations)
        self._blinds = tuple(blinds)

    @property
    def spots(self):
        """The ascending tuple of the spots."""
        return self._spots

    @property
    def cost(self):
        """The cost of the spots."""
        return self._cost

    @property
    def combinations(self):
        """The tuple with a combination for each wish."""
        return self._combinations

    @property
    def blinds(self):
        """The tuple of data that refute all that costs less."""
        return self._blinds

    def paper(self):
        """Return the tuple (spots, cost, combinations, blinds)."""
        return (self._spots, self._cost, self._combinations, self._blinds)

    def __call__(self, stored):
        """Return the tuple of the values of the wishes by the stored values."""
        if not is_stored(self._table, stored):
            raise InvalidStored(stored)
        lacking = tuple([spot for spot in self._spots if spot not in stored])
        if len(lacking) > 0:
            raise InvalidSpots(lacking)
        return tuple([given_value(self._table, row, stored) for row in self._combinations])

    def __eq__(self, other):
        return (
            isinstance(other, Reads)
            and self._spots == other._spots
            and self._cost == other._cost
            and self._combinations == other._combinations
            and self._blinds == other._blinds
        )


def least_seeing(choices, wished, gone=()):
    """Return (cost, spots) of the least set without these pieces that sees all wished points; raise Lost for none."""
    found = choices.first(wished, gone)
    if found is None:
        unseen = wished & ~choices.sight.by_spots([spot for spot in choices.there if spot[0] not in gone])
        raise Lost(choices.sight.data_of(first_of(unseen))[0])
    return found


def least(table, cost, gone, wishes):
    """Return the least Reads by which all wishes can be had from the spots that are not gone."""
    expect_question(table, cost, gone, wishes)
    choices = Choices(table, cost, gone)
    wished = choices.sight.by_sums(wishes)
    price, spots = least_seeing(choices, wished)
    combinations = [combination_for(table, spots, item) for item in wishes]
    blinds = choices.sight.data_of(choices.refuting(wished, price))
    return Reads(table, spots, price, combinations, blinds)


def extras(table, cost, gone, spots):
    """Return the Space of the paid spots, for some spots, that are not gone."""
    expect_cost(table, cost)
    if not are_spots(gone, list(table)):
        raise InvalidSpots(gone)
    # The cost, which has just the spots of the table, raises InvalidSpots for wrong ones.
    paid = cost.paid(spots)
    return table.space([spot for spot in paid if spot not in gone])


def cheaper(table, cost, gone, bound):
    """Generate all sets of spots that are not gone and cost less than bound: the least, then the fewest spots first."""
    expect_cost(table, cost)
    if not are_spots(gone, list(table)):
        raise InvalidSpots(gone)
    if not is_integer(bound):
        raise InvalidNumber(bound)
    for price, _, spots, _, _ in Choices(table, cost, gone).rows:
        if price < bound:
            yield spots
