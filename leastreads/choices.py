"""All sets of spots that can be read, the least first, with the points that they see."""

from leastreads.basics import all_groups
from leastreads.points import Sight, first_of


def marks_of(pieces):
    """Return some pieces as the bits of an integer."""
    return sum([1 << piece for piece in pieces])


class Choices:
    """All sets of the spots of a table that are there and have a cost.

    Their rows are tuples (cost, number, spots, pieces, points): pieces are those with some of the spots, as bits.
    """

    def __init__(self, table, cost, gone=()):
        self.sight = Sight(table)
        self.there = [spot for spot in table if spot not in gone and cost((spot,)) is not None]
        self.rows = sorted([self._row(cost, group) for group in all_groups(len(self.there))])

    def _row(self, cost, group):
        """Return the row of the spots at these indexes of those that are there."""
        spots = tuple([self.there[index] for index in group])
        pieces = sorted(set([piece for piece, _ in spots]))
        return (cost(spots), len(spots), spots, marks_of(pieces), self.sight.by_spots(spots))

    def first(self, wished, gone=()):
        """Return (cost, spots) of the least set without these pieces that sees all wished points, or None."""
        marks = marks_of(gone)
        for price, _, spots, pieces, seen in self.rows:
            if pieces & marks == 0 and wished & ~seen == 0:
                return (price, spots)
        return None

    def widened(self, seen, wished, gone=()):
        """Return some points that are seen and those that further spots, not of these pieces, see.

        As many of the spots are taken, one after the other, as leave a wished point unseen: what refutes them all
        refutes many sets.
        """
        for spot in self.there:
            more = seen | self.sight.by_spots([spot])
            if spot[0] not in gone and wished & ~more != 0:
                seen = more
        return seen

    def refuting(self, wished, bound):
        """Return points, all wished, of which each set that costs less than bound leaves one unseen.

        No set that costs less may see all wished points.
        """
        chosen = 0
        # A set with more spots stands behind all sets within it, and what refutes it refutes these, too.
        for price, _, _, _, seen in reversed(list(self.rows)):
            if price < bound and chosen & ~seen == 0:
                chosen = chosen | first_of(wished & ~self.widened(seen, wished))
        return chosen
