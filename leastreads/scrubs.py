"""Scrubs: the least reads by which wrong pieces are seen."""

from leastreads.basics import all_groups, are_pieces, are_spots, is_between
from leastreads.choices import Choices
from leastreads.costs import expect_prices
from leastreads.errors import InvalidNumber, InvalidPieces, InvalidSpots, Unseen
from leastreads.points import first_of

GREATEST_MOST = 6


def are_watched(table, gone, value):
    """Return whether any object is an ascending list or tuple of at least one piece, none with gone spots."""
    if not are_pieces(value, len(table)) or len(value) == 0:
        return False
    return not any([spot[0] in value for spot in gone])


def expect_scrub(table, cost, gone, watched, most):
    """Raise what scrub raises for wrong arguments."""
    expect_prices(table, cost)
    if not are_spots(gone, list(table)):
        raise InvalidSpots(gone)
    if not are_watched(table, gone, watched):
        raise InvalidPieces(watched)
    if not is_between(most, 1, GREATEST_MOST):
        raise InvalidNumber(most)


class Watch:
    """Watched pieces of which some, at most a number, can be wrong, and how they stay unseen."""

    def __init__(self, table, sight, watched, most):
        self._sight = sight
        self.needed = table.spots_of(watched)
        groups = [tuple([watched[index] for index in group]) for group in all_groups(len(watched))]
        groups = [group for group in groups if 0 < len(group) <= most]
        # Each group with the points that its own spots see.
        self._groups = [(group, sight.by_spots(table.spots_of(group))) for group in groups]

    def seen_without(self, spots, group):
        """Return the points that spots see, those of a group of pieces left out."""
        return self._sight.by_spots([spot for spot in spots if spot[0] not in group])

    def unseen(self, spots):
        """Return (group, points) for the first group whose points the other spots do not see all, or None."""
        for group, points in self._groups:
            if points & ~self.seen_without(spots, group) != 0:
                return (group, points)
        return None

    def does(self, spots):
        """Return whether spots have all spots of the watched pieces, and the wrong ones are seen by them."""
        return all([spot in spots for spot in self.needed]) and self.unseen(spots) is None


def refuters_for(choices, watch, bound):
    """Return the list of (group, point) that refute all sets with the watched pieces that cost less than bound."""
    found = []
    # A set with more spots stands behind all sets within it, and what refutes it refutes these, too.
    for price, _, spots, _, _ in reversed(list(choices.rows)):
        if price < bound and all([spot in spots for spot in watch.needed]):
            if not any([point & ~watch.seen_without(spots, other) != 0 for other, point in found]):
                group, points = watch.unseen(spots)
                seen = choices.widened(watch.seen_without(spots, group), points, group)
                found.append((group, first_of(points & ~seen)))
    return found


def scrub(table, cost, gone, watched, most=1):
    """Return (spots, cost, refuters): the least reads by which at most so many wrong watched pieces are seen."""
    expect_scrub(table, cost, gone, watched, most)
    choices = Choices(table, cost, gone)
    watch = Watch(table, choices.sight, watched, most)
    failing = watch.unseen(choices.there)
    if failing is not None:
        group, points = failing
        unseen = points & ~watch.seen_without(choices.there, group)
        raise Unseen(group, choices.sight.data_of(first_of(unseen))[0])
    price, _, spots, _, _ = [row for row in choices.rows if watch.does(row[2])][0]
    refuters = refuters_for(choices, watch, price)
    return (spots, price, tuple([(group, choices.sight.data_of(point)[0]) for group, point in refuters]))
