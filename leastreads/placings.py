"""Placings of pieces on machines, and how many machines they survive."""

from leastreads.basics import MOST_PIECES, all_between, all_groups, all_tuples, are_pieces, has_items, is_between
from leastreads.basics import power
from leastreads.errors import InvalidNumber, InvalidPieces, InvalidPlacing, LimitExceeded, Lost
from leastreads.ground import fatal, least_losses, units_of
from leastreads.spaces import blind_for

MOST_MACHINES = 6
MOST_PLACINGS = 4096


class Placing:
    """The machine of each piece, or None for a piece that is gone."""

    def __init__(self, machines, where):
        if not is_between(machines, 1, MOST_MACHINES):
            raise InvalidNumber(machines)
        if not has_items(where, 1, MOST_PIECES):
            raise InvalidPlacing(where)
        if not all_between([machine for machine in where if machine is not None], 0, machines - 1):
            raise InvalidPlacing(where)
        self._machines = machines
        self._where = tuple(where)

    @property
    def machines(self):
        """The number of machines."""
        return self._machines

    @property
    def where(self):
        """The tuple with the machine of each piece, or None."""
        return self._where

    def __getitem__(self, at):
        if not is_between(at, 0, len(self._where) - 1):
            raise InvalidPieces(at)
        return self._where[at]

    def __iter__(self):
        return iter(self._where)

    def on(self, machine):
        """Return the ascending tuple of the pieces on a machine."""
        if not is_between(machine, 0, self._machines - 1):
            raise InvalidNumber(machine)
        return tuple([piece for piece, place in enumerate(self._where) if place == machine])

    def moved(self, piece, machine):
        """Return the placing with a piece on a machine."""
        if not is_between(piece, 0, len(self._where) - 1):
            raise InvalidPieces(piece)
        if not is_between(machine, 0, self._machines - 1):
            raise InvalidNumber(machine)
        return Placing(self._machines, with_piece_on(self._where, piece, machine))

    def without(self, machines):
        """Return the placing behind the loss of some machines."""
        if not are_machines(machines, self._machines):
            raise InvalidNumber(machines)
        return Placing(self._machines, [None if machine in machines else machine for machine in self._where])

    def __eq__(self, other):
        return isinstance(other, Placing) and self._machines == other._machines and self._where == other._where


def are_machines(value, many):
    """Return whether any object is an ascending list or tuple of different machines of so many."""
    # They are told like pieces.
    return are_pieces(value, many)


def with_piece_on(where, piece, machine):
    """Return the tuple of the machines of all pieces when a piece is on a machine."""
    return (*where[:piece], machine, *where[piece + 1 :])


def expect_placing(table, placing):
    """Raise InvalidPlacing for any object that is not a Placing of as many pieces."""
    if not isinstance(placing, Placing) or len(placing.where) != len(table):
        raise InvalidPlacing(placing)


def machines_of(where, pieces):
    """Return the ascending tuple of the machines on which some pieces lie."""
    return tuple(sorted(set([where[piece] for piece in pieces if where[piece] is not None])))


def weakest(bars, where):
    """Return (number, machines, bar) for the first one of some bars whose pieces lie on the fewest machines.

    If the bars are those of all least fatal sets of pieces, the machines are a fatal set, and no fewer ones are.
    """
    places = [machines_of(where, pieces) for pieces, _ in bars]
    return min([(len(machines), machines, bar) for machines, bar in zip(places, bars)])


def survival(table, placing):
    """Return the greatest number of machines, whichever, that a placing survives, or -1."""
    expect_placing(table, placing)
    return weakest(fatal(table, units_of(table)), placing.where)[0] - 1


def fatal_machines(table, placing):
    """Return the list of the least fatal sets of machines, each with the first data that show it."""
    expect_placing(table, placing)
    pieces = list(enumerate(placing.where))
    losses = []
    for machines in all_groups(placing.machines):
        losses.append((machines, [piece for piece, place in pieces if place is None or place in machines]))
    return least_losses(table, units_of(table), losses)


def expect_counts(machines, limit):
    """Raise InvalidNumber for a wrong number of machines, then for a wrong limit."""
    if not is_between(machines, 1, MOST_MACHINES):
        raise InvalidNumber(machines)
    if not is_between(limit, 1, MOST_PIECES):
        raise InvalidNumber(limit)


def expect_room(table, machines, limit):
    """Raise LimitExceeded, Lost or LimitExceeded if there is no best placing or too many are to be looked at."""
    if machines * limit < len(table):
        raise LimitExceeded(limit)
    if not table.is_whole:
        raise Lost(blind_for(table.space(), units_of(table)))
    if power(machines, len(table)) > MOST_PLACINGS:
        raise LimitExceeded(MOST_PLACINGS)


def roomy_placings(table, machines, limit):
    """Return the ascending list of all tuples of machines of the pieces, at most limit on each machine."""
    rows = all_tuples(machines, len(table))
    return [where for where in rows if max([where.count(machine) for machine in where]) <= limit]


def best_placing(table, machines, limit):
    """Return (placing, survival, bars): the best placing of all pieces and why no other one survives more."""
    expect_counts(machines, limit)
    expect_room(table, machines, limit)
    bars = fatal(table, units_of(table))
    rows = [(where, weakest(bars, where)) for where in roomy_placings(table, machines, limit)]
    most = max([weak[0] for _, weak in rows])
    first = [where for where, weak in rows if weak[0] == most][0]
    chosen = []
    for where, weak in rows:
        if not any([len(machines_of(where, pieces)) <= most for pieces, _ in chosen]):
            chosen.append(weak[2])
    return (Placing(machines, first), most - 1, tuple(chosen))
