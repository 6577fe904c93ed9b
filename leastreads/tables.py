"""Tables: pieces of parts, each part a sum."""

from leastreads.basics import MOST_PARTS, MOST_PIECES, all_between, are_pieces, are_spots, has_items, is_spot
from leastreads.basics import spots_of_parts
from leastreads.errors import InvalidData, InvalidPieces, InvalidSpots, InvalidTable
from leastreads.spaces import Space
from leastreads.stored import Stored
from leastreads.sums import Sum, expect_prime_and_size, is_data

MOST_PARTS_IN_ALL = 10


def expect_pieces(prime, size, pieces):
    """Raise InvalidTable with the first place at which pieces are wrong."""
    if not has_items(pieces, 1, MOST_PIECES):
        raise InvalidTable(None)
    if sum([len(parts) for parts in pieces if isinstance(parts, (list, tuple))]) > MOST_PARTS_IN_ALL:
        raise InvalidTable(None)
    for piece, parts in enumerate(pieces):
        if not has_items(parts, 1, MOST_PARTS):
            raise InvalidTable((piece,))
        for part, factors in enumerate(parts):
            if not has_items(factors, size, size) or not all_between(factors, 0, prime - 1):
                raise InvalidTable((piece, part))


class Table:
    """Pieces, each with some parts, which are sums of one prime and size."""

    def __init__(self, prime, size, pieces):
        expect_prime_and_size(prime, size)
        expect_pieces(prime, size, pieces)
        self._prime = prime
        self._size = size
        self._pieces = tuple([tuple([tuple(factors) for factors in parts]) for parts in pieces])
        self._spots = spots_of_parts(self._pieces)
        self._sums = {(piece, part): Sum(prime, self._pieces[piece][part]) for piece, part in self._spots}
        self._whole = self.space().is_whole

    @property
    def prime(self):
        """The prime."""
        return self._prime

    @property
    def size(self):
        """The size."""
        return self._size

    @property
    def pieces(self):
        """The tuple of the pieces, each the tuple of its parts, each the tuple of its factors."""
        return self._pieces

    @property
    def is_whole(self):
        """Whether the space of all parts is whole."""
        return self._whole

    def __len__(self):
        return len(self._pieces)

    def __iter__(self):
        return iter(self._spots)

    def __contains__(self, x):
        return is_spot(x, self._spots)

    def __getitem__(self, at):
        if not is_spot(at, self._spots):
            raise InvalidSpots(at)
        return self._sums[at]

    def __eq__(self, other):
        return isinstance(other, Table) and self._prime == other._prime and self._pieces == other._pieces

    def __call__(self, data):
        """Return the Stored of these data."""
        if not is_data(self._prime, self._size, data):
            raise InvalidData(data)
        values = {spot: item(data) for spot, item in self._sums.items()}
        there = list(enumerate(self._pieces))
        return Stored([[values[piece, part] for part in range(len(parts))] for piece, parts in there])

    def space(self, spots=None):
        """Return the Space of the sums at some spots, at all of them if spots is None."""
        if spots is None:
            spots = self._spots
        if not are_spots(spots, self._spots):
            raise InvalidSpots(spots)
        return Space(self._prime, self._size, [self._sums[spot] for spot in spots])

    def spots_of(self, pieces):
        """Return the ascending tuple of the spots of some pieces."""
        if not are_pieces(pieces, len(self._pieces)):
            raise InvalidPieces(pieces)
        return tuple([(piece, part) for piece, part in self._spots if piece in pieces])

    def ordered(self, order):
        """Return the table whose piece at each index is the piece of this one at order's item."""
        many = len(self._pieces)
        if not has_items(order, many, many) or not all_between(order, 0, many - 1):
            raise InvalidPieces(order)
        if sorted(order) != list(range(many)):
            raise InvalidPieces(order)
        return Table(self._prime, self._size, [self._pieces[piece] for piece in order])


def is_stored(table, value):
    """Return whether any object is a Stored of the table."""
    return isinstance(value, Stored) and value.fits(table)
