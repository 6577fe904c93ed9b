"""Tables judged: which ones are alike, and the bases of data with the fewest touches."""

from leastreads.basics import all_groups, all_tuples, is_integer, power
from leastreads.errors import InvalidData, InvalidOperand, LimitExceeded
from leastreads.spaces import given_rows, reduced_rows
from leastreads.sums import Sum, is_data, is_sum
from leastreads.tables import Table
from leastreads.wrong import wrong_pieces

MOST_CHANGES = 20000


def expect_comparable(one, other):
    """Raise InvalidOperand for any object that is not a Table with this one's prime, size and number of pieces."""
    if not isinstance(other, Table) or (one.prime, one.size, len(one)) != (other.prime, other.size, len(other)):
        raise InvalidOperand(other)


def are_independent(prime, rows):
    """Return whether all zeros come of some rows only with all integers 0."""
    return len(reduced_rows(prime, rows)) == len(rows)


def all_changes(prime, size):
    """Return the list of all changes, each as a tuple of tuples of factors."""
    changes = [()]
    rows = all_tuples(prime, size)
    for _ in range(size):
        wider = []
        for change in changes:
            given = {row: True for row in given_rows(prime, size, reduced_rows(prime, change))}
            wider.extend([(*change, row) for row in rows if row not in given])
        changes = wider
    return changes


def changed_row(prime, change, factors):
    """Return the factors of a changed sum."""
    columns = list(zip(*change))
    return tuple([sum([factor * one for factor, one in zip(factors, column)]) % prime for column in columns])


def piece_rows(table):
    """Return the list of the reduced rows of the space of each piece of a table."""
    return [reduced_rows(table.prime, parts) for parts in table.pieces]


class Likeness:
    """The pieces of two tables, and in which order a change makes those of one the other's."""

    def __init__(self, one, other):
        self._prime = one.prime
        self._rows = piece_rows(one)
        wished = piece_rows(other)
        self._sizes = [len(rows) for rows in wished]
        self._given = [{row: True for row in given_rows(one.prime, one.size, rows)} for rows in wished]

    def _fits(self, rows, index):
        """Return whether changed rows of a piece give the space of the other table's piece at an index."""
        return len(rows) == self._sizes[index] and all([row in self._given[index] for row in rows])

    def order_for(self, change):
        """Return the first order of pieces that goes with a change, or None."""
        changed = [[changed_row(self._prime, change, row) for row in rows] for rows in self._rows]
        order = []
        for index in range(len(self._sizes)):
            # Pieces that fit at one index have the same space, so that any one of them does for the rest.
            fitting = [piece for piece, rows in enumerate(changed) if piece not in order and self._fits(rows, index)]
            if len(fitting) == 0:
                return None
            order.append(fitting[0])
        return tuple(order)


def alike(one, other):
    """Return (order, change), the first order of pieces with a change for it, or None if tables are not alike."""
    expect_comparable(one, other)
    if power(one.prime, one.size * one.size) > MOST_CHANGES:
        raise LimitExceeded(MOST_CHANGES)
    # Going through all changes takes long; unlike sizes tell at once.
    if sizes(one) != sizes(other):
        return None
    likeness = Likeness(one, other)
    best = None
    for change in all_changes(one.prime, one.size):
        order = likeness.order_for(change)
        if order is not None and (best is None or order < best[0]):
            best = (order, change)
    if best is None:
        return None
    return (best[0], tuple([Sum(one.prime, factors) for factors in best[1]]))


def is_alike(one, other, value):
    """Return whether any object is a tuple (order, change) that shows that tables are alike."""
    expect_comparable(one, other)
    if not isinstance(value, tuple) or len(value) != 2:
        return False
    order, change = value
    if not isinstance(order, tuple) or not all([is_integer(item) for item in order]):
        return False
    if sorted(order) != list(range(len(one))):
        return False
    if not isinstance(change, tuple) or len(change) != one.size:
        return False
    if not all([is_sum(one.prime, one.size, item) for item in change]):
        return False
    rows = [item.factors for item in change]
    if not are_independent(one.prime, rows):
        return False
    wished = piece_rows(other)
    made = [[changed_row(one.prime, rows, row) for row in one.pieces[piece]] for piece in order]
    return [reduced_rows(one.prime, parts) for parts in made] == wished


def sizes(table):
    """Return the list, for each number of pieces from 1 on, of the ascending lens of the spaces of so many pieces."""
    told = [[] for _ in range(len(table))]
    for pieces in all_groups(len(table))[1:]:
        told[len(pieces) - 1].append(len(table.space(table.spots_of(pieces))))
    return [tuple(sorted(lens)) for lens in told]


def touches(table, data):
    """Return the number of pieces with a part that is not 0 for data."""
    if not is_data(table.prime, table.size, data) or not any(data):
        raise InvalidData(data)
    return len(table(data) - table((0,) * table.size))


def fewest_base(table):
    """Return the list of (touches, data) of a base with the fewest touches, ascending."""
    # What stores a value that is not 0 differs from what all zeros store.
    wrong = wrong_pieces(table, table((0,) * table.size))
    rows = sorted([(len(pieces), data) for pieces, data in zip(wrong, all_tuples(table.prime, table.size))])
    chosen = []
    reduced = []
    for many, data in rows:
        wider = reduced_rows(table.prime, [*reduced, data])
        if len(wider) > len(reduced):
            reduced = wider
            chosen.append((many, data))
    return chosen


def fewest_touches(table):
    """Return (total, base): the fewest touches of a base, and one that has them."""
    chosen = fewest_base(table)
    return (sum([many for many, _ in chosen]), tuple([data for _, data in chosen]))


def is_base(table, value):
    """Return whether any object is a base."""
    if not isinstance(value, tuple) or len(value) != table.size:
        return False
    if not all([is_data(table.prime, table.size, data) for data in value]):
        return False
    return are_independent(table.prime, value)


def is_fewest_touches(table, value):
    """Return whether any object is such a tuple of the fewest touches and a base that has them."""
    if not isinstance(value, tuple) or len(value) != 2:
        return False
    total, base = value
    if not is_integer(total) or not is_base(table, base) or not all([isinstance(data, tuple) for data in base]):
        return False
    told = [touches(table, data) for data in base]
    return told == sorted(told) and total == sum(told) and total == fewest_touches(table)[0]


def rebased(table, base):
    """Return the table with, for each sum, the sum whose factors are its values for the data of a base."""
    if not is_base(table, base):
        raise InvalidData(base)
    rows = [[table[spot](data) for data in base] for spot in table]
    factors = {spot: row for spot, row in zip(table, rows)}
    pieces = [[factors[piece, part] for part in range(len(parts))] for piece, parts in enumerate(table.pieces)]
    return Table(table.prime, table.size, pieces)
