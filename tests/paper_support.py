"""What the tests of papers need: strict forms, altered papers, and the words of the points gone through one by one."""

from itertools import permutations

from net_support import all_choices, is_zero_at
from support import are_had, data_of, is_proper_data, priced, rows_at, subsets, sum_of, value_of, zeros_of
from test_placings import left_of
from test_scrubs import does


def same(one, other):
    """Return whether two objects are the same tuples of the same things; True is not 1, and a list no tuple."""
    if type(one) is not type(other):
        return False
    if type(one) is tuple:
        return len(one) == len(other) and all(same(*pair) for pair in zip(one, other))
    return one == other


def is_among(value, rows):
    return any(same(value, row) for row in rows)


def is_rows(value, *counts):
    return type(value) is tuple and (not counts or len(value) in counts)


def variants(value):
    """Return a list of objects, each other than a nested tuple in one place."""
    if type(value) is not tuple:
        others = [None, "0", 1.5, (), [value]]
        if type(value) is int:
            others += [value + 1, value - 1, value + 7]
            others += [bool(value)] if value in (0, 1) else []
        return others
    others = [list(value), value[1:], value[:-1], value[::-1], value + value[-1:], value + (None,), (value,), None]
    for place, item in enumerate(value):
        others += [value[:place] + (other,) + value[place + 1 :] for other in variants(item)]
        others.append(value[:place] + value[place + 1 :])
    return [other for other in others if not same(other, value)]


def is_combination(table, spots, value):
    if not is_rows(value) or not all(is_rows(item, 2) for item in value):
        return False
    if not all(type(factor) is int and 0 < factor < table.prime for _, factor in value):
        return False
    if not all(is_among(spot, spots) for spot, _ in value):
        return False
    places = [list(table).index(spot) for spot, _ in value]
    return places == sorted(set(places))


def is_least_right(table, cost, gone, wishes, value):
    """Return whether a value is right by the words of point 9."""
    if not is_rows(value, 4):
        return False
    spots, price, combinations, blinds = value
    rows = all_choices(table, cost, gone)
    if type(price) is not int or not is_among((price, spots), [(row[0], row[2]) for row in rows]):
        return False
    if not is_rows(combinations, len(wishes)) or not is_rows(blinds):
        return False
    for item, combination in zip(wishes, combinations):
        if not is_combination(table, spots, combination) or sum_of(table, combination) != item.factors:
            return False
    for data in blinds:
        if not is_proper_data(table, data) or not any(value_of(table.prime, w.factors, data) for w in wishes):
            return False
    cheap = [chosen for other, _, chosen in rows if other < price]
    return all(any(is_zero_at(table, chosen, data) for data in blinds) for chosen in cheap)


def is_scrub_right(table, prices, gone, watched, most, value):
    """Return whether a value is right by the words of point 13."""
    if not is_rows(value, 3):
        return False
    spots, price, refuters = value
    there = [spot for spot in table if spot not in gone]
    if type(price) is not int or not is_among(spots, subsets(there)) or priced(prices, spots) != price:
        return False
    if not does(table, spots, watched, most) or not is_rows(refuters):
        return False
    for refuter in refuters:
        if not is_rows(refuter, 2) or not is_among(refuter[0], subsets(watched)) or len(refuter[0]) > most:
            return False
        own = [spot for spot in table if spot[0] in refuter[0]]
        if not is_proper_data(table, refuter[1]) or is_zero_at(table, own, refuter[1]):
            return False
    for chosen in subsets(there):
        needed = all(spot in chosen for spot in table if spot[0] in watched)
        if needed and priced(prices, chosen) < price:
            rests = [([spot for spot in chosen if spot[0] not in pieces], data) for pieces, data in refuters]
            if not any(is_zero_at(table, rest, data) for rest, data in rests):
                return False
    return True


def is_explained_right(table, stored, value):
    """Return whether a value is right by the words of point 12."""
    if not is_rows(value, 3):
        return False
    number, found, clashes = value
    if type(number) is not int or not is_rows(found, 1, 2) or not is_rows(clashes):
        return False
    there = [piece for piece in range(len(table)) if stored.pieces[piece] is not None]
    for item in found:
        if not is_rows(item, 2) or not is_among(item[0], subsets(there)) or not is_proper_data(table, item[1]):
            return False
        made = table(item[1]).pieces
        if item[0] != tuple(piece for piece in there if stored.pieces[piece] != made[piece]) or len(item[0]) != number:
            return False
    if len(found) == 2 and not found[0] < found[1]:
        return False
    spots = [spot for spot in table if spot[0] in there]
    for clash in clashes:
        if not is_combination(table, spots, clash) or any(sum_of(table, clash)):
            return False
        if sum(stored.pieces[piece][part] * factor for (piece, part), factor in clash) % table.prime == 0:
            return False
    hit = [{spot[0] for spot, _ in clash} for clash in clashes]
    hitting = [group for group in subsets(range(len(table))) if all(set(group) & pieces for pieces in hit)]
    if any(len(group) < number for group in hitting):
        return False
    if len(found) == 2:
        return True
    if [group for group in hitting if len(group) == number and set(group) <= set(there)] != [found[0][0]]:
        return False
    left = [spot for spot in spots if spot[0] not in found[0][0]]
    return len(zeros_of(table.prime, table.size, rows_at(table, left))) == 1


def is_barred_right(table, machines, limit, survival, value):
    """Return whether a value is right by the words of point 15."""
    if not is_rows(value):
        return False
    for bar in value:
        if not is_rows(bar, 2) or not is_among(bar[0], subsets(range(len(table)))):
            return False
        others = [spot for spot in table if spot[0] not in bar[0]]
        if not is_proper_data(table, bar[1]) or not any(bar[1]) or not is_zero_at(table, others, bar[1]):
            return False
    wheres = [()]
    for _ in range(len(table)):
        wheres = [(*where, machine) for where in wheres for machine in range(machines)]
    for where in wheres:
        if max(where.count(machine) for machine in where) <= limit:
            if not any(len({where[piece] for piece in pieces}) <= survival + 1 for pieces, _ in value):
                return False
    return True


def is_block_right(plain, block):
    """Return whether a value is a block of point 16."""
    if not is_rows(block, 3) or not is_rows(block[0], len(plain.table)):
        return False
    where, machines, data = block
    if not all(is_among(place, [None, *range(plain.machines)]) for place in where):
        return False
    if not is_among(machines, subsets(range(plain.machines))) or not is_proper_data(plain.table, data) or not any(data):
        return False
    return is_zero_at(plain.table, left_of(plain.table, where, machines), data)


def is_way_right(plain, start, value):
    """Return whether a value is right by the words of point 16."""
    if not is_rows(value, 3) or type(value[0]) is not int or not is_rows(value[1]) or not is_rows(value[2]):
        return False
    price, steps, blocks = value
    where, total, table = start, 0, plain.table
    for step in steps:
        if not is_rows(step, 3) or not is_among(step[0], range(len(table))):
            return False
        piece, machine, spots = step
        readable = [spot for spot in table if where[spot[0]] is not None]
        if not is_among(machine, range(plain.machines)) or not plain.can_step(where, piece, machine):
            return False
        if not is_among(spots, subsets(readable)) or not are_had(table, spots, table.pieces[piece]):
            return False
        if not plain.survives(where, plain.low):
            return False
        total += priced(plain.prices, spots)
        where = (*where[:piece], machine, *where[piece + 1 :])
    if not plain.is_last(where) or not plain.survives(where, max(plain.low, plain.high)) or total != price:
        return False
    if not all(is_block_right(plain, block) for block in blocks):
        return False
    passing = {where for where, machines, _ in blocks if len(machines) <= plain.low}
    last = {where for where, machines, _ in blocks if len(machines) <= plain.high} | passing
    keys = plain.keys(start, lambda then: then not in passing)
    return not any(key[0] < price and plain.is_last(then) and then not in last for then, key in keys.items())


class PlainWrite:
    """A write by going through all sets of pieces, all orders and all data of the mixed tables."""

    def __init__(self, table, changed, most, gone):
        self.table, self.changed, self.gone = table, tuple(changed), gone
        self.there = [piece for piece in range(len(table)) if piece not in gone]
        rows = enumerate(table.pieces)
        touched = [p for p, parts in rows if any(part[index] for part in parts for index in changed)]
        self.order = [piece for piece in touched if piece in self.there]
        many = min(most, len(self.there))
        self.goings = [group for group in subsets(self.there) if len(group) == many]
        self.told = {}

    def new_of(self, data):
        """Return the new data of data of a mixed table."""
        new = list(data[: self.table.size])
        for index, value in zip(self.changed, data[self.table.size :]):
            new[index] = value
        return tuple(new)

    def zeros(self, written, pieces):
        """Return all data of the mixed table for which all these pieces store zeros."""
        table, found = self.table, []
        for data in data_of(table.prime, table.size + len(self.changed)):
            old, new = data[: table.size], self.new_of(data)
            if not any(value_of(table.prime, part, new if piece in written else old)
                       for piece in pieces for part in table.pieces[piece]):  # fmt: skip
                found.append(data)
        return found

    def blinds(self, written, pieces):
        """Return the blind data for the old wishes, and those for the new ones."""
        zeros = self.zeros(written, pieces)
        return [data for data in zeros if any(data[: self.table.size])], [d for d in zeros if any(self.new_of(d))]

    def block(self, written):
        """Return the first block of a moment, with the first data, or None."""
        if written not in self.told:
            self.told[written] = None
            for going in self.goings:
                old, new = self.blinds(written, [piece for piece in self.there if piece not in going])
                if old and new:
                    self.told[written] = (written, going, old[0], new[0])
                    break
        return self.told[written]

    def moments(self, order):
        return [tuple(sorted(order[:many])) for many in range(len(order) + 1)]

    def safe_orders(self):
        orders = permutations(self.order)
        return [order for order in orders if all(self.block(written) is None for written in self.moments(order))]

    def is_block(self, value):
        if not is_rows(value, 4) or not is_among(value[0], subsets(self.order)) or not is_among(value[1], self.goings):
            return False
        old, new = self.blinds(value[0], [piece for piece in self.there if piece not in value[1]])
        return is_among(value[2], old) and is_among(value[3], new)

    def is_right(self, value):
        """Return whether a value tells rightly whether there is a safe order."""
        if not is_rows(value, 2) or type(value[0]) is not str:
            return False
        if value[0] == "order":
            return is_among(value[1], self.safe_orders())
        if value[0] != "blocked" or type(value[1]) not in (list, tuple):
            return False
        if not all(self.is_block(block) for block in value[1]):
            return False
        blocked = [block[0] for block in value[1]]
        return all(any(written in blocked for written in self.moments(order)) for order in permutations(self.order))
