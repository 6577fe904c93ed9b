"""Checkers: whether any object is a right paper, in whatever way it was found."""

from heapq import heappop, heappush

from leastreads.basics import all_between, all_groups, are_pieces, are_spots, is_ascending, is_between, is_integer
from leastreads.errors import InvalidNumber
from leastreads.ground import fatal, given_sum, given_value, is_blind, is_combination, units_of
from leastreads.moves import Mover, expect_move
from leastreads.placings import are_machines, expect_counts, expect_room, machines_of, roomy_placings, weakest
from leastreads.placings import with_piece_on
from leastreads.points import Sight
from leastreads.reads import cheaper, expect_question
from leastreads.scrubs import Watch, expect_scrub
from leastreads.spaces import blind_for
from leastreads.sums import is_data
from leastreads.wrong import expect_stored


def is_row(value, many):
    """Return whether any object is a tuple of so many items."""
    return isinstance(value, tuple) and len(value) == many


def is_read(cost, there, spots, price):
    """Return whether any objects are an ascending tuple of spots that are there, and its cost."""
    if not isinstance(spots, tuple) or not are_spots(spots, there):
        return False
    return is_integer(price) and cost(spots) == price


def marks_at(table, spots):
    """Return some spots of a table as the bits of an integer."""
    return sum([1 << index for index, spot in enumerate(table) if spot in spots])


def marks_seeing(table, data, pieces=()):
    """Return the marks of the spots, but those of some pieces, that are not 0 for data."""
    return marks_at(table, [spot for spot in table if spot[0] not in pieces and table[spot](data) != 0])


def all_refuted(groups, seeing):
    """Return whether each group of spots, as marks, has none of those that see some data."""
    # Many data are often seen by the same spots.
    different = sorted(set(seeing))
    return all([any([marks & seen == 0 for seen in different]) for marks in groups])


def are_combinations(table, spots, wishes, value):
    """Return whether any object is a tuple with a combination of some of these spots for each wish."""
    if not is_row(value, len(wishes)) or not all([is_combination(table, spots, item) for item in value]):
        return False
    return all([given_sum(table, item) == wish for item, wish in zip(value, wishes)])


def is_least(table, cost, gone, wishes, value):
    """Return whether any object is a right paper of the least reads."""
    expect_question(table, cost, gone, wishes)
    if not is_row(value, 4):
        return False
    spots, price, combinations, blinds = value
    if not is_read(cost, [spot for spot in table if spot not in gone], spots, price):
        return False
    if not are_combinations(table, spots, wishes, combinations) or not isinstance(blinds, tuple):
        return False
    if not all([is_blind(table, (), wishes, data) for data in blinds]):
        return False
    groups = [marks_at(table, other) for other in cheaper(table, cost, gone, price)]
    return all_refuted(groups, [marks_seeing(table, data) for data in blinds])


def is_explanation(table, stored, number, value):
    """Return whether any object is an explanation with so many pieces."""
    if not is_row(value, 2):
        return False
    pieces, data = value
    if not is_row(pieces, number) or not all_between(pieces, 0, len(table) - 1):
        return False
    if not isinstance(data, tuple) or not is_data(table.prime, table.size, data):
        return False
    return stored - table(data) == pieces


def is_clash(table, stored, value):
    """Return whether any object is a clash."""
    if not is_combination(table, list(stored), value):
        return False
    return given_sum(table, value).is_zero and given_value(table, value, stored) != 0


def groups_hitting(stored, clashes, number):
    """Return the list of the groups of at most so many pieces that are there and have a piece of each clash."""
    there = [piece for piece in range(len(stored)) if piece not in stored.gone]
    places = sorted(set([tuple([spot[0] for spot, _ in told]) for told in clashes]))
    groups = [tuple([there[index] for index in group]) for group in all_groups(len(there)) if len(group) <= number]
    return [group for group in groups if all([any([piece in group for piece in hit]) for hit in places])]


def is_explained(table, stored, value):
    """Return whether any object is a right paper of the fewest wrong pieces."""
    expect_stored(table, stored)
    if not is_row(value, 3):
        return False
    number, found, clashes = value
    if not is_integer(number) or not (is_row(found, 1) or is_row(found, 2)):
        return False
    if not all([is_explanation(table, stored, number, item) for item in found]) or not is_ascending(found):
        return False
    if not isinstance(clashes, tuple) or not all([is_clash(table, stored, item) for item in clashes]):
        return False
    hitting = groups_hitting(stored, clashes, number)
    if len(found) == 2:
        return all([len(group) == number for group in hitting])
    pieces = found[0][0]
    return hitting == [pieces] and table.space([spot for spot in stored if spot[0] not in pieces]).is_whole


def is_refuter(table, watched, most, value):
    """Return whether any object is a refuter for at most so many of the watched pieces."""
    if not is_row(value, 2):
        return False
    pieces, data = value
    if not isinstance(pieces, tuple) or not are_pieces(pieces, len(table)) or len(pieces) > most:
        return False
    if not all([piece in watched for piece in pieces]):
        return False
    return is_blind(table, (), [table[spot] for spot in table.spots_of(pieces)], data)


def is_scrub(table, cost, gone, watched, value, most=1):
    """Return whether any object is a right paper of the least reads that see wrong pieces."""
    expect_scrub(table, cost, gone, watched, most)
    if not is_row(value, 3):
        return False
    spots, price, refuters = value
    if not is_read(cost, [spot for spot in table if spot not in gone], spots, price):
        return False
    if not Watch(table, Sight(table), watched, most).does(spots):
        return False
    if not isinstance(refuters, tuple) or not all([is_refuter(table, watched, most, item) for item in refuters]):
        return False
    needed = marks_at(table, table.spots_of(watched))
    groups = [marks_at(table, other) for other in cheaper(table, cost, gone, price)]
    seeing = [marks_seeing(table, data, pieces) for pieces, data in refuters]
    return all_refuted([marks for marks in groups if needed & ~marks == 0], seeing)


def is_bar(table, value):
    """Return whether any object is a bar."""
    if not is_row(value, 2):
        return False
    pieces, data = value
    if not isinstance(pieces, tuple) or not are_pieces(pieces, len(table)):
        return False
    return is_blind(table, [spot for spot in table if spot[0] not in pieces], units_of(table), data)


def is_barred(table, machines, limit, survival, value):
    """Return whether any object is a right paper for a survival: bars for each placing of all pieces."""
    expect_counts(machines, limit)
    if not is_integer(survival) or survival < -1:
        raise InvalidNumber(survival)
    expect_room(table, machines, limit)
    if not isinstance(value, tuple) or not all([is_bar(table, item) for item in value]):
        return False
    groups = sorted(set([pieces for pieces, _ in value]))
    for where in roomy_placings(table, machines, limit):
        if not any([len(machines_of(where, pieces)) <= survival + 1 for pieces in groups]):
            return False
    return True


def step_cost(table, cost, mover, where, value):
    """Return the cost of any object that is a step that can be taken, with reads for it; None for other ones."""
    if not is_row(value, 3) or not is_integer(value[0]) or not is_integer(value[1]):
        return None
    piece, machine, spots = value
    if (piece, machine) not in [step[:2] for step in mover.steps(where)]:
        return None
    readable = table.spots_of([other for other, place in enumerate(where) if place is not None])
    if not isinstance(spots, tuple) or not are_spots(spots, readable):
        return None
    if blind_for(table.space(spots), [table[spot] for spot in table.spots_of([piece])]) is not None:
        return None
    return cost(spots)


def way_cost(table, cost, mover, start, steps, low, high):
    """Return the cost of any objects as steps that are a way; None if they are none."""
    bars = fatal(table, units_of(table))
    where = start
    total = 0
    for step in steps:
        price = step_cost(table, cost, mover, where, step)
        if price is None or weakest(bars, where)[0] <= low:
            return None
        total = total + price
        where = with_piece_on(where, step[0], step[1])
    if not mover.is_end(where) or weakest(bars, where)[0] <= max(low, high):
        return None
    return total


def is_block(table, machines, value):
    """Return whether any object is a block of a placing on so many machines."""
    if not is_row(value, 3) or not is_row(value[0], len(table)):
        return False
    where, going, data = value
    if not all([place is None or is_between(place, 0, machines - 1) for place in where]):
        return False
    if not isinstance(going, tuple) or not are_machines(going, machines):
        return False
    left = [piece for piece, place in enumerate(where) if place is not None and place not in going]
    return is_blind(table, table.spots_of(left), units_of(table), data)


def least_unblocked(mover, start, passing, last):
    """Return the least cost of steps to an end that is not blocked, through such placings, or None."""
    queue = [(0, 0, start)]
    pushed = 0
    done = {}
    while queue:
        # The numbers of the pushes differ, so that placings are never compared.
        cost, _, where = heappop(queue)
        if where not in done and where not in passing:
            done[where] = True
            if mover.is_end(where) and where not in last:
                return cost
            for piece, machine, price in mover.steps(where):
                pushed += 1
                heappush(queue, (cost + price, pushed, with_piece_on(where, piece, machine)))
    return None


def is_way(table, cost, placing, low, high, limit, value, closed=()):
    """Return whether any object is a right paper of the least way from a placing."""
    expect_move(table, cost, placing, low, high, limit, closed)
    if not is_row(value, 3):
        return False
    price, steps, blocks = value
    if not is_integer(price) or not isinstance(steps, tuple) or not isinstance(blocks, tuple):
        return False
    mover = Mover(table, cost, limit, [machine for machine in range(placing.machines) if machine not in closed])
    if way_cost(table, cost, mover, placing.where, steps, low, high) != price:
        return False
    if not all([is_block(table, placing.machines, item) for item in blocks]):
        return False
    passing = [where for where, machines, _ in blocks if len(machines) <= low]
    last = [where for where, machines, _ in blocks if len(machines) <= high]
    found = least_unblocked(mover, placing.where, {where: True for where in passing}, {where: True for where in last})
    return found is None or found >= price
