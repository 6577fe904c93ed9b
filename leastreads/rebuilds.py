"""Rebuilding pieces that are gone, together or one after the other."""

from leastreads.basics import all_groups, are_pieces
from leastreads.choices import Choices
from leastreads.costs import expect_prices
from leastreads.errors import InvalidPieces, Lost
from leastreads.points import first_of
from leastreads.reads import least


def expect_rebuilding(table, cost, pieces):
    """Raise InvalidCost unless cost is Prices that fit the table, then InvalidPieces for what is not some pieces."""
    expect_prices(table, cost)
    if not are_pieces(pieces, len(table)) or len(pieces) == 0:
        raise InvalidPieces(pieces)


def together(table, cost, pieces):
    """Return the Reads that rebuild all of some pieces."""
    expect_rebuilding(table, cost, pieces)
    spots = table.spots_of(pieces)
    return least(table, cost, spots, [table[spot] for spot in spots])


def expect_rebuildable(table, sight, pieces):
    """Raise Lost if some part of the pieces cannot be had from all others."""
    others = [spot for spot in table if spot[0] not in pieces]
    unseen = sight.by_spots(table.spots_of(pieces)) & ~sight.by_spots(others)
    if unseen != 0:
        raise Lost(sight.data_of(first_of(unseen))[0])


def others_of(pieces, group):
    """Return the tuple of those of some pieces that are not in a group."""
    return tuple([piece for piece in pieces if piece not in group])


def best_step(table, choices, left, heights):
    """Return (height, piece, spots) for the first of some pieces that are left to rebuild."""
    options = []
    for piece in left:
        wished = choices.sight.by_spots(table.spots_of([piece]))
        price, spots = choices.first(wished, left)
        options.append((price + heights[others_of(left, (piece,))], piece, spots))
    return min(options)


def in_order(table, cost, pieces):
    """Return (cost, steps, heights) of the first order with the least cost in which pieces are rebuilt."""
    expect_rebuilding(table, cost, pieces)
    choices = Choices(table, cost)
    expect_rebuildable(table, choices.sight, pieces)
    groups = [tuple([pieces[index] for index in group]) for group in all_groups(len(pieces))]
    # By what is left to rebuild; the fewer pieces are left, the earlier it is known.
    heights = {(): 0}
    steps = {}
    for left in groups[1:]:
        height, piece, spots = best_step(table, choices, left, heights)
        heights[left] = height
        steps[left] = (piece, spots)
    told = []
    left = tuple(pieces)
    while len(left) > 0:
        step = steps[left]
        told.append(step)
        left = others_of(left, step[:1])
    told_heights = tuple([(group, heights[others_of(pieces, group)]) for group in groups])
    return (heights[tuple(pieces)], tuple(told), told_heights)
