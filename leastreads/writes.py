"""Writes: what they touch, what can be had at each moment of them, and what is recovered of a mixture."""

from leastreads.basics import all_between, all_groups, are_pieces, has_items, is_integer
from leastreads.errors import InvalidChange, InvalidData, InvalidNumber, InvalidPieces, LimitExceeded, Unsure
from leastreads.ground import combination_for, given_value, is_blind
from leastreads.points import Sight, first_of
from leastreads.reads import expect_cost, least
from leastreads.spaces import blind_for
from leastreads.stored import Stored
from leastreads.sums import Sum, is_size
from leastreads.tables import Table
from leastreads.wrong import clash, expect_stored

MOST_MIXED = 4096


def expect_changed(table, changed):
    """Raise InvalidChange for what is not an ascending list or tuple of at least one index of a data value."""
    # Indexes are told like pieces.
    if not are_pieces(changed, table.size) or len(changed) == 0:
        raise InvalidChange(changed)


def expect_some(table, pieces):
    """Raise InvalidPieces for what is not an ascending list or tuple of different pieces."""
    if not are_pieces(pieces, len(table)):
        raise InvalidPieces(pieces)


def expect_mixable(table, changed):
    """Raise LimitExceeded if the mixed table would have too many data values."""
    if not is_size(table.prime, table.size + len(changed)):
        raise LimitExceeded(MOST_MIXED)


def is_changed_part(factors, changed):
    """Return whether some factor at a changed index is not 0."""
    return any([factors[index] != 0 for index in changed])


def touched_pieces(table, changed):
    """Return the ascending tuple of the touched pieces."""
    rows = list(enumerate(table.pieces))
    return tuple([piece for piece, parts in rows if any([is_changed_part(row, changed) for row in parts])])


def touched(table, changed):
    """Return the ascending tuple of the touched pieces."""
    expect_changed(table, changed)
    return touched_pieces(table, changed)


def mixed_factors(factors, changed, is_written):
    """Return the factors of a part in a mixed table: those of the old data, behind them those of the new values."""
    if not is_written:
        return (*factors, *[0 for _ in changed])
    old = [0 if index in changed else factor for index, factor in enumerate(factors)]
    return (*old, *[factors[index] for index in changed])


def mixed(table, changed, written):
    """Return the mixed Table of a moment at which some pieces are written."""
    expect_changed(table, changed)
    expect_some(table, written)
    expect_mixable(table, changed)
    rows = list(enumerate(table.pieces))
    pieces = [[mixed_factors(factors, changed, piece in written) for factors in parts] for piece, parts in rows]
    return Table(table.prime, table.size + len(changed), pieces)


def old_wishes(table, changed):
    """Return the list of the units of all old data in the mixed tables."""
    expect_changed(table, changed)
    expect_mixable(table, changed)
    return [Sum.unit(table.prime, table.size + len(changed), index) for index in range(table.size)]


def new_wishes(table, changed):
    """Return the list of the units of all new data in the mixed tables."""
    wishes = old_wishes(table, changed)
    for place, index in enumerate(changed):
        wishes[index] = Sum.unit(table.prime, table.size + len(changed), table.size + place)
    return wishes


def remainders(table, changed, gone=()):
    """Return the list of (spot, remainder) of all parts that are there and have a factor at a changed index."""
    expect_changed(table, changed)
    expect_some(table, gone)
    told = []
    for spot in table:
        factors = table[spot].factors
        if spot[0] not in gone and is_changed_part(factors, changed):
            rest = [0 if index in changed else factor for index, factor in enumerate(factors)]
            told.append((spot, Sum(table.prime, rest)))
    return told


def write_wishes(table, changed, gone):
    """Return the list of the remainders, or of the sum with all factors 0 if there are none."""
    wishes = [item for _, item in remainders(table, changed, gone)]
    return wishes if len(wishes) > 0 else [Sum(table.prime, (0,) * table.size)]


def write_reads(table, cost, changed, gone=()):
    """Return the least Reads by which the touched pieces that are not gone can be rewritten."""
    expect_changed(table, changed)
    expect_cost(table, cost)
    wishes = write_wishes(table, changed, gone)
    return least(table, cost, table.spots_of(gone), wishes)


def are_new_values(prime, many, value):
    """Return whether any object is a list or tuple of so many integers from 0 to prime - 1."""
    return has_items(value, many, many) and all_between(value, 0, prime - 1)


def expect_remaining(table, told, remaining):
    """Raise InvalidData for what is not a value for each remainder that is told, or one 0 if there are none."""
    if not are_new_values(table.prime, max(1, len(told)), remaining):
        raise InvalidData(remaining)
    if len(told) == 0 and remaining[0] != 0:
        raise InvalidData(remaining)


def rewritten(table, changed, values, stored, remaining):
    """Return the Stored with new data values, by the values of the remainders."""
    expect_changed(table, changed)
    if not are_new_values(table.prime, len(changed), values):
        raise InvalidData(values)
    expect_stored(table, stored)
    told = remainders(table, changed, stored.gone)
    expect_remaining(table, told, remaining)
    pieces = [None if old is None else list(old) for old in stored.pieces]
    for (spot, _), rest in zip(told, remaining):
        factors = table[spot].factors
        added = sum([factors[index] * value for index, value in zip(changed, values)])
        pieces[spot[0]][spot[1]] = (rest + added) % table.prime
    return Stored(pieces)


class Moments:
    """The moments of a write, and what can be had at them, whichever so many pieces go."""

    def __init__(self, table, changed, most, gone):
        expect_changed(table, changed)
        expect_mixable(table, changed)
        expect_some(table, gone)
        if not is_integer(most) or most < 0:
            raise InvalidNumber(most)
        self._table = table
        self._changed = tuple(changed)
        self._there = [piece for piece in range(len(table)) if piece not in gone]
        self.order = tuple([piece for piece in touched_pieces(table, changed) if piece not in gone])
        self.old = old_wishes(table, changed)
        self.new = new_wishes(table, changed)
        many = min(most, len(self._there))
        groups = [group for group in all_groups(len(self._there)) if len(group) == many]
        self._goings = [tuple([self._there[index] for index in group]) for group in groups]
        self._told = {}

    def left(self, going):
        """Return the spots of the pieces that are there when some go."""
        return self._table.spots_of([piece for piece in self._there if piece not in going])

    def block(self, written):
        """Return the first block of the moment at which these pieces are written, or None if it is safe."""
        if written not in self._told:
            self._told[written] = self._found_block(written)
        return self._told[written]

    def _found_block(self, written):
        """Look for the first block of a moment."""
        sight = Sight(mixed(self._table, self._changed, written))
        wished = [sight.by_sums(self.old), sight.by_sums(self.new)]
        for going in self._goings:
            seen = sight.by_spots(self.left(going))
            old, new = [points & ~seen for points in wished]
            if old != 0 and new != 0:
                return (written, going, sight.data_of(first_of(old))[0], sight.data_of(first_of(new))[0])
        return None

    def is_block(self, value):
        """Return whether any object is a block of one of the moments."""
        if not isinstance(value, tuple) or len(value) != 4:
            return False
        written, going, old, new = value
        if not isinstance(written, tuple) or not are_pieces(written, len(self._table)):
            return False
        if not all([piece in self.order for piece in written]):
            return False
        if not isinstance(going, tuple) or not are_pieces(going, len(self._table)) or going not in self._goings:
            return False
        table = mixed(self._table, self._changed, written)
        spots = self.left(going)
        return is_blind(table, spots, self.old, old) and is_blind(table, spots, self.new, new)


def with_piece(written, piece):
    """Return the moment at which a piece is written, too."""
    return tuple(sorted([*written, piece]))


def first_rest(moments, written, blocks):
    """Return the first safe rest of an order behind a moment, or None.

    The moments that are safe without such a rest, and those that are not, are kept in blocks, with their block.
    """
    if written in blocks:
        return None
    block = moments.block(written)
    if block is None:
        if len(written) == len(moments.order):
            return ()
        for piece in [piece for piece in moments.order if piece not in written]:
            rest = first_rest(moments, with_piece(written, piece), blocks)
            if rest is not None:
                return (piece, *rest)
    blocks[written] = block
    return None


def unsafe(table, changed, written, most, gone=()):
    """Return None if a moment is safe, otherwise its first block."""
    expect_changed(table, changed)
    expect_some(table, written)
    return Moments(table, changed, most, gone).block(tuple(written))


def safe_order(table, changed, most, gone=()):
    """Return ("order", pieces) with the first safe order, or ("blocked", blocks) if there is none."""
    blocks = {}
    order = first_rest(Moments(table, changed, most, gone), (), blocks)
    if order is not None:
        return ("order", order)
    return ("blocked", [blocks[written] for written in blocks if blocks[written] is not None])


def is_order(moments, value):
    """Return whether any object is a safe order."""
    if not isinstance(value, tuple) or not all([is_integer(item) for item in value]):
        return False
    if tuple(sorted(value)) != moments.order:
        return False
    passed = [tuple(sorted(value[:many])) for many in range(len(value) + 1)]
    return all([moments.block(written) is None for written in passed])


def all_pass(order, blocked):
    """Return whether each order of some pieces passes one of the blocked moments."""
    reached = [()] if () not in blocked else []
    for _ in order:
        rows = [with_piece(written, piece) for written in reached for piece in order if piece not in written]
        reached = sorted(set([written for written in rows if written not in blocked]))
    return len(reached) == 0


def is_safe_order(table, changed, most, value, gone=()):
    """Return whether any object is such a tuple that tells rightly whether there is a safe order."""
    moments = Moments(table, changed, most, gone)
    if not isinstance(value, tuple) or len(value) != 2 or not isinstance(value[0], str):
        return False
    word, told = value
    if word == "order":
        return is_order(moments, told)
    if word != "blocked" or not isinstance(told, (list, tuple)):
        return False
    return all([moments.is_block(item) for item in told]) and all_pass(moments.order, [item[0] for item in told])


def recover(table, changed, stored, written):
    """Return ("new", data), ("old", data), or ("none", blinds), by what a write left when it crashed."""
    expect_changed(table, changed)
    expect_stored(table, stored)
    table_then = mixed(table, changed, written)
    found = clash(table_then, stored)
    if found is not None:
        raise Unsure(found)
    space = table_then.space(list(stored))
    blinds = []
    for word, wishes in [("new", new_wishes(table, changed)), ("old", old_wishes(table, changed))]:
        blind = blind_for(space, wishes)
        if blind is None:
            rows = [combination_for(table_then, list(stored), item) for item in wishes]
            return (word, tuple([given_value(table_then, row, stored) for row in rows]))
        blinds.append(blind)
    return ("none", (blinds[1], blinds[0]))
