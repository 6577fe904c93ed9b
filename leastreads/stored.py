"""What is stored: the values of the parts of each piece, or None for a piece that is gone."""

from leastreads.basics import MOST_PARTS, MOST_PIECES, all_between, are_pieces, has_items, is_between, is_spot
from leastreads.basics import spots_of_parts
from leastreads.errors import InvalidOperand, InvalidPieces, InvalidSpots, InvalidStored

# The greatest prime is 7.
GREATEST_VALUE = 6


def are_values(value):
    """Return whether any object is a list or tuple of values that can stand in a piece."""
    return has_items(value, 1, MOST_PARTS) and all_between(value, 0, GREATEST_VALUE)


class Stored:
    """The values of the parts of each piece that is not gone."""

    def __init__(self, pieces):
        if not has_items(pieces, 1, MOST_PIECES):
            raise InvalidStored(pieces)
        if not all([values is None or are_values(values) for values in pieces]):
            raise InvalidStored(pieces)
        self._pieces = tuple([None if values is None else tuple(values) for values in pieces])
        self._spots = spots_of_parts(self._pieces)

    @property
    def pieces(self):
        """The tuple of the pieces, each None or the tuple of its values."""
        return self._pieces

    @property
    def gone(self):
        """The ascending tuple of the pieces that are gone."""
        return tuple([piece for piece, values in enumerate(self._pieces) if values is None])

    def __len__(self):
        return len(self._pieces)

    def __iter__(self):
        return iter(self._spots)

    def __contains__(self, x):
        return is_spot(x, self._spots)

    def __getitem__(self, at):
        if not is_spot(at, self._spots):
            raise InvalidSpots(at)
        return self._pieces[at[0]][at[1]]

    def without(self, pieces):
        """Return the same with these pieces gone, too."""
        if not are_pieces(pieces, len(self._pieces)):
            raise InvalidPieces(pieces)
        return Stored([None if piece in pieces else values for piece, values in enumerate(self._pieces)])

    def bent(self, piece, values):
        """Return the same with these values in a piece."""
        if not is_between(piece, 0, len(self._pieces) - 1):
            raise InvalidPieces(piece)
        if not are_values(values):
            raise InvalidStored(values)
        return Stored([values if index == piece else old for index, old in enumerate(self._pieces)])

    def fits(self, table):
        """Return whether a table could store this: as many pieces and parts, and a greater prime."""
        if len(table.pieces) != len(self._pieces):
            return False
        there = [(values, parts) for values, parts in zip(self._pieces, table.pieces) if values is not None]
        if not all([len(values) == len(parts) for values, parts in there]):
            return False
        return all([max(values) < table.prime for values, _ in there])

    def __sub__(self, other):
        if not isinstance(other, Stored) or len(other._pieces) != len(self._pieces):
            raise InvalidOperand(other)
        pairs = list(zip(self._pieces, other._pieces))
        there = [(piece, one, two) for piece, (one, two) in enumerate(pairs) if one is not None and two is not None]
        return tuple([piece for piece, one, two in there if one != two])

    def __eq__(self, other):
        return isinstance(other, Stored) and self._pieces == other._pieces
