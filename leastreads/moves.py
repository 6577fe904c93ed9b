"""Moves of pieces to other machines: the least way, each placing of which survives."""

from heapq import heappop, heappush

from leastreads.basics import is_between, power
from leastreads.choices import Choices
from leastreads.costs import expect_prices
from leastreads.errors import InvalidNumber, LimitExceeded, NoWay
from leastreads.ground import fatal, units_of
from leastreads.placings import are_machines, expect_placing, weakest, with_piece_on

GREATEST_NUMBER = 6
MOST_WHERES = 4096


def expect_move(table, cost, placing, low, high, limit, closed):
    """Raise what move raises ahead of looking for a way."""
    expect_prices(table, cost)
    expect_placing(table, placing)
    for number in (low, high, limit):
        if not is_between(number, 0, GREATEST_NUMBER):
            raise InvalidNumber(number)
    if not are_machines(closed, placing.machines):
        raise InvalidNumber(closed)
    if power(placing.machines + 1, len(table)) > MOST_WHERES:
        raise LimitExceeded(MOST_WHERES)


class Mover:
    """The steps that pieces can take, to some machines, and their least reads."""

    def __init__(self, table, cost, limit, machines):
        self._table = table
        self._choices = Choices(table, cost)
        self._limit = limit
        self._machines = machines
        self._told = {}

    def reads(self, where, piece):
        """Return (cost, spots) of the least reads of a piece's parts, or None if they cannot be had."""
        gone = tuple([other for other, place in enumerate(where) if place is None])
        if (gone, piece) not in self._told:
            wished = self._choices.sight.by_spots(self._table.spots_of([piece]))
            self._told[gone, piece] = self._choices.first(wished, gone)
        return self._told[gone, piece]

    def steps(self, where):
        """Return the list of tuples (piece, machine, cost) of all steps that can be taken."""
        roomy = [machine for machine in self._machines if where.count(machine) < self._limit]
        rows = []
        for piece, place in enumerate(where):
            found = self.reads(where, piece)
            if found is not None:
                rows.extend([(piece, machine, found[0]) for machine in roomy if machine != place])
        return rows

    def is_end(self, where):
        """Return whether a way may end here, but for survival."""
        return all([place in self._machines and where.count(place) <= self._limit for place in where])

    def told_steps(self, where, pairs):
        """Return the tuple of tuples (piece, machine, spots) for the pairs (piece, machine) of a list of steps."""
        told = []
        for piece, machine in pairs:
            told.append((piece, machine, self.reads(where, piece)[1]))
            where = with_piece_on(where, piece, machine)
        return tuple(told)


def search(mover, bars, start, low, high):
    """Return (cost, pairs, blocks) of the first way of the least cost; without a way cost and pairs are None."""
    # The tuple of the pairs (piece, machine) of its steps decides between ways of equal costs and as many steps.
    queue = [(0, 0, (), start)]
    done = {}
    blocks = []
    while queue:
        cost, many, pairs, where = heappop(queue)
        if where not in done:
            done[where] = True
            number, machines, bar = weakest(bars, where)
            is_end = mover.is_end(where)
            if is_end and number > low and number > high:
                return (cost, pairs, [block for price, block in blocks if price < cost])
            if is_end or number <= low:
                blocks.append((cost, (where, machines, bar[1])))
            if number > low:
                for piece, machine, price in mover.steps(where):
                    then = with_piece_on(where, piece, machine)
                    if then not in done:
                        heappush(queue, (cost + price, many + 1, (*pairs, (piece, machine)), then))
    return (None, None, [block for _, block in blocks])


def move(table, cost, placing, low, high, limit, closed=()):
    """Return (cost, steps, blocks): the least way to a placing that survives high, and why no way costs less."""
    expect_move(table, cost, placing, low, high, limit, closed)
    mover = Mover(table, cost, limit, [machine for machine in range(placing.machines) if machine not in closed])
    price, pairs, blocks = search(mover, fatal(table, units_of(table)), placing.where, low, high)
    if price is None:
        raise NoWay(tuple(blocks))
    return (price, mover.told_steps(placing.where, pairs), tuple(blocks))
