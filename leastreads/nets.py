"""Costs in a net of racks: what is read is to be known in the rack home."""

from leastreads.basics import all_between, all_groups, are_spots, has_items, is_between, spots_of_parts
from leastreads.costs import GREATEST_PRICE, Prices
from leastreads.errors import InvalidCost, InvalidSpots, InvalidStored
from leastreads.ground import is_combination
from leastreads.tables import is_stored

GREATEST_RACK = 4
MOST_LINKS = 10


def is_rack(value):
    """Return whether any object is a rack."""
    return is_between(value, 0, GREATEST_RACK)


def is_link(value):
    """Return whether any object is a tuple of two ascending racks and a price."""
    if not isinstance(value, tuple) or len(value) != 3:
        return False
    if not is_rack(value[0]) or not is_rack(value[1]) or not is_between(value[2], 0, GREATEST_PRICE):
        return False
    return value[0] < value[1]


def are_links(value):
    """Return whether any object is a list or tuple of at most ten links, no two of the same racks."""
    if not has_items(value, 0, MOST_LINKS) or not all([is_link(item) for item in value]):
        return False
    return len(set([(one, other) for one, other, _ in value])) == len(value)


def reached(links, home):
    """Return the ascending list of the racks to which some links lead from home."""
    racks = {home: True}
    for _ in links:
        for one, other, _ in links:
            if one in racks or other in racks:
                racks[one] = racks[other] = True
    return sorted(racks)


def least_trees(links, home):
    """Return the dict from each ascending tuple of racks that can be reached to (price, indexes) of its least tree."""
    # A tree with the fewest links has fewer links than there are racks.
    groups = [group for group in all_groups(len(links)) if len(group) <= GREATEST_RACK]
    rows = sorted([(sum([links[index][2] for index in group]), len(group), group) for group in groups])
    trees = {}
    for price, _, group in rows:
        racks = reached([links[index] for index in group], home)
        for places in all_groups(len(racks)):
            trees.setdefault(tuple([racks[place] for place in places]), (price, group))
    return trees


class Net:
    """Prices for reads, the racks of the pieces, links that carry values at a price, and the rack home."""

    def __init__(self, prices, racks, links, home):
        if not isinstance(prices, Prices):
            raise InvalidCost(prices)
        many = len(prices.parts)
        if not has_items(racks, many, many) or not all_between(racks, 0, GREATEST_RACK):
            raise InvalidCost(racks)
        if not are_links(links):
            raise InvalidCost(links)
        if not is_rack(home):
            raise InvalidCost(home)
        self._prices = prices
        self._racks = tuple(racks)
        self._links = tuple(sorted(links))
        self._home = home
        self._spots = spots_of_parts(prices.parts)
        self._trees = least_trees(self._links, home)

    @property
    def prices(self):
        """The Prices of the reads."""
        return self._prices

    @property
    def racks(self):
        """The tuple with the rack of each piece."""
        return self._racks

    @property
    def links(self):
        """The ascending tuple of the links."""
        return self._links

    @property
    def home(self):
        """The rack in which the wish is to be known."""
        return self._home

    def fits(self, table):
        """Return whether any object is a Table with as many pieces and parts."""
        return self._prices.fits(table)

    def __call__(self, spots):
        """Return the cost of some spots, or None if there is no tree for them."""
        tree = self.tree(spots)
        prices = self._prices
        return None if tree is None else prices(spots) + tree[0]

    def paid(self, spots):
        """Return the ascending tuple of the paid spots for some spots."""
        return self._prices.paid(spots)

    def tree(self, spots):
        """Return (price, indexes) of the links of the least tree for some spots, or None."""
        if not are_spots(spots, self._spots):
            raise InvalidSpots(spots)
        return self._trees.get(tuple(sorted(set([self._racks[piece] for piece, _ in spots]))))

    def __eq__(self, other):
        return (
            isinstance(other, Net)
            and self._prices == other._prices
            and self._racks == other._racks
            and self._links == other._links
            and self._home == other._home
        )


def carrying_links(links, home):
    """Return the list of (from, to) of the links of a tree, to nearer to home, in the order in which they carry."""
    steps = {home: 0}
    nearer = {}
    for _ in links:
        for one, other, _ in links:
            for rack, to in [(one, other), (other, one)]:
                if to in steps and rack not in steps:
                    steps[rack] = steps[to] + 1
                    nearer[rack] = to
    order = sorted([(-steps[rack], rack) for rack in nearer])
    return [(rack, nearer[rack]) for _, rack in order]


def sent(net, table, combination, stored):
    """Return the list of tuples (from, to, value): what goes over the links when a combination is added up."""
    if not isinstance(net, Net) or not net.fits(table):
        raise InvalidCost(net)
    if not is_combination(table, list(table), combination):
        raise InvalidSpots(combination)
    tree = net.tree([spot for spot, _ in combination])
    if tree is None:
        raise InvalidSpots(combination)
    if not is_stored(table, stored) or not all([spot in stored for spot, _ in combination]):
        raise InvalidStored(stored)
    values = {}
    for spot, factor in combination:
        rack = net.racks[spot[0]]
        values[rack] = values.get(rack, 0) + factor * stored[spot]
    rows = []
    for rack, to in carrying_links([net.links[index] for index in tree[1]], net.home):
        value = values.get(rack, 0) % table.prime
        values[to] = values.get(to, 0) + value
        rows.append((rack, to, value))
    return rows
