import time
import unittest
from random import Random

from leastreads.costs import Prices
from leastreads.errors import InvalidCost, InvalidNumber, InvalidPlacing, LimitExceeded, NoWay
from leastreads.moves import move
from leastreads.nets import Net
from leastreads.placings import Placing, survival
from leastreads.tables import Table
from net_support import is_zero_at, least_spots, random_prices
from support import NO_INTEGERS, NO_LISTS, ODD, is_proper_data, raised, random_table
from test_placings import left_of, survival_of

TABLE = Table(3, 2, [[(1, 0)], [(0, 1)], [(1, 1)], [(1, 2)]])
PRICES = Prices([[5], [2], [2], [3]], [9, 9, 9, 9], [0, 0, 0, 0])
SHAPES = [(2, 1, [1, 1, 1]), (2, 2, [1, 1, 1]), (3, 1, [2, 1]), (2, 2, [1, 2, 1]), (3, 2, [1, 1, 1, 1]), (2, 1, [1, 1, 2, 1])]


class Plain:
    """Moves by going through all placings, every number of them counted anew."""

    def __init__(self, table, prices, machines, low, high, limit, closed):
        self.table, self.prices, self.machines = table, prices, machines
        self.low, self.high, self.limit, self.closed = low, high, limit, closed
        self.told = {}

    def reads(self, where, piece):
        """Return (cost, spots) of the least reads of a piece, or None."""
        gone = tuple(other for other, place in enumerate(where) if place is None)
        if (gone, piece) not in self.told:
            spots = [spot for spot in self.table if spot[0] in gone]
            wishes = [self.table[spot] for spot in self.table if spot[0] == piece]
            self.told[gone, piece] = least_spots(self.table, self.prices, spots, wishes)
        return self.told[gone, piece]

    def survives(self, where, number):
        if where not in self.told:
            self.told[where] = survival_of(self.table, self.machines, where)
        return self.told[where] >= number

    def can_step(self, where, piece, machine):
        if machine in self.closed or where[piece] == machine or where.count(machine) >= self.limit:
            return False
        return self.reads(where, piece) is not None

    def is_last(self, where):
        """Return whether a way can end here, but for survival."""
        return all(p is not None and p not in self.closed and where.count(p) <= self.limit for p in where)

    def keys(self, start, passes):
        """Return the dict from each placing that can be come to, through such as pass, to its least key."""
        keys, fresh = {start: (0, 0, ())}, [start]
        while fresh:
            where = fresh.pop()
            cost, many, pairs = keys[where]
            if not passes(where):
                continue
            for piece in range(len(where)):
                for machine in range(self.machines):
                    if self.can_step(where, piece, machine):
                        then = (*where[:piece], machine, *where[piece + 1 :])
                        key = (cost + self.reads(where, piece)[0], many + 1, (*pairs, (piece, machine)))
                        if then not in keys or key < keys[then]:
                            keys[then] = key
                            fresh.append(then)
        return keys

    def best(self, start):
        """Return the key of the way that is told, or None."""
        keys = self.keys(start, lambda where: self.survives(where, self.low))
        ends = [key for where, key in keys.items() if self.is_last(where) and self.survives(where, max(self.low, self.high))]
        return min(ends) if ends else None


def cases(seed, many):
    """Generate tables, prices, placings, and the numbers of a move."""
    random = Random(seed)
    for number in range(many):
        prime, size, counts = SHAPES[number % len(SHAPES)]
        table = random_table(random, prime, size, counts)
        machines = random.randint(1, 4 if len(counts) < 4 else 3)
        where = [random.choice([None, *range(machines)] + list(range(machines)) * 2) for _ in counts]
        limit = random.choice([1, 2, 2, 3, 6])
        closed = sorted(random.sample(range(machines), min(machines, random.choice([0, 0, 1]))))
        low, high = random.choice([0, 0, 0, 1]), random.choice([0, 0, 1, 1, 2])
        yield table, random_prices(random, table), Placing(machines, where), low, high, limit, closed


class MoveTest(unittest.TestCase):
    def check_blocks(self, plain, start, blocks, cost):
        """Check that each list of steps that costs less, or each one at all, is blocked."""
        table = plain.table
        self.assertIs(type(blocks), tuple)
        passing, lasting = {}, {}
        for where, machines, data in blocks:
            Placing(plain.machines, where)
            self.assertTrue(type(where) is tuple and len(where) == len(table))
            self.assertTrue(type(machines) is tuple and list(machines) == sorted(set(machines)))
            self.assertTrue(set(machines) <= set(range(plain.machines)))
            self.assertTrue(is_proper_data(table, data) and any(data))
            self.assertTrue(is_zero_at(table, left_of(table, where, machines), data))
            passing[where] = min(len(machines), passing.get(where, 9))
            lasting[where] = min(len(machines), lasting.get(where, 9))
        keys = plain.keys(start, lambda where: passing.get(where, 9) > plain.low)
        for where, key in keys.items():
            if plain.is_last(where) and min(passing.get(where, 9) - plain.low, lasting.get(where, 9) - plain.high) > 0:
                self.assertTrue(cost is not None and key[0] >= cost, (where, key))

    def check(self, table, prices, placing, low, high, limit, closed):
        """Check a move against all placings; return whether there is a way."""
        plain = Plain(table, prices, placing.machines, low, high, limit, closed)
        best = plain.best(placing.where)
        if best is None:
            blocks = raised(NoWay, move, table, prices, placing, low, high, limit, closed).blocks
            self.check_blocks(plain, placing.where, blocks, None)
            return False
        cost, steps, blocks = move(table, prices, placing, low, high, limit, closed)
        self.assertEqual((cost, len(steps), tuple(step[:2] for step in steps)), best)
        self.check_way(plain, placing, cost, steps)
        self.check_blocks(plain, placing.where, blocks, cost)
        return True

    def check_way(self, plain, placing, cost, steps):
        where, total = placing.where, 0
        self.assertTrue(plain.survives(where, plain.low))
        for piece, machine, spots in steps:
            self.assertTrue(plain.can_step(where, piece, machine))
            self.assertEqual(spots, plain.reads(where, piece)[1])
            total += plain.reads(where, piece)[0]
            where = (*where[:piece], machine, *where[piece + 1 :])
            self.assertTrue(plain.survives(where, plain.low))
        self.assertTrue(plain.is_last(where) and plain.survives(where, plain.high))
        self.assertEqual(total, cost)

    def test_against_all_placings(self):
        told = [self.check(*case) for case in cases(81, 240)]
        self.assertGreater(told.count(True), 60)
        self.assertGreater(told.count(False), 60)

    def test_nothing_to_do(self):
        placing = Placing(4, [0, 0, 1, 1])
        for low, high in [(0, 0), (0, 1), (1, 1), (1, 0)]:
            self.assertEqual(move(TABLE, PRICES, placing, low, high, 2), (0, (), ()))
            self.assertTrue(self.check(TABLE, PRICES, placing, low, high, 2, []))

    def test_ordinary_answers(self):
        placing = Placing(4, [0, 0, 1, None])
        cost, steps, blocks = move(table=TABLE, cost=PRICES, placing=placing, low=0, high=2, limit=2, closed=())
        self.assertEqual((cost, steps), (6, ((1, 2, ((1, 0),)), (3, 3, ((1, 0), (2, 0))))))
        self.assertTrue(self.check(TABLE, PRICES, placing, 0, 2, 2, []))
        self.assertEqual(move(TABLE, PRICES, placing, 0, 2, 2, [])[2], blocks)

    def test_a_machine_that_is_to_be_empty(self):
        placing = Placing(3, [0, 0, 1, 2])
        cost, steps, _ = move(TABLE, PRICES, placing, 0, 1, 2, closed=[0])
        self.assertEqual((cost, [step[:2] for step in steps]), (6, [(0, 1), (1, 2)]))
        self.assertTrue(self.check(TABLE, PRICES, placing, 0, 1, 2, [0]))
        self.assertTrue(self.check(TABLE, PRICES, placing, 0, 0, 4, (0, 2)))
        self.assertFalse(self.check(TABLE, PRICES, placing, 0, 1, 4, (0, 2)))

    def test_a_broken_machine(self):
        placing = Placing(3, [0, 0, 1, 2]).without([0])
        cost, steps, _ = move(TABLE, PRICES, placing, 0, 1, 2, closed=(0,))
        self.assertEqual((cost, [step[:2] for step in steps]), (9, [(1, 1), (0, 2)]))
        self.assertEqual([step[2] for step in steps], [((2, 0), (3, 0)), ((1, 0), (2, 0))])
        self.assertTrue(self.check(TABLE, PRICES, placing, 0, 1, 2, [0]))
        self.assertFalse(self.check(TABLE, PRICES, Placing(3, [None, None, None, 2]), 0, 0, 6, []))

    def test_a_swap_over_a_third_machine(self):
        # Pieces 1 and 2 change places; piece 1 waits on machine 2, since both other machines are full.
        pieces = [[(0, 1, 1, 1)], [(2, 2, 1, 2)], [(2, 1, 2, 1)], [(1, 2, 1, 1)], [(2, 0, 0, 1), (1, 0, 1, 0)]]
        table = Table(3, 4, pieces)
        prices = Prices([[9], [1], [5], [30], [1, 30]], [99] * 5, [0] * 5)
        placing = Placing(3, [0, 0, 1, 1, 2])
        cost, steps, blocks = move(table, prices, placing, 0, 1, 2)
        self.assertEqual((cost, [step[:2] for step in steps]), (7, [(1, 2), (2, 0), (1, 1)]))
        plain = Plain(table, prices, 3, 0, 1, 2, [])
        self.check_way(plain, placing, cost, steps)
        self.check_blocks(plain, placing.where, blocks, cost)
        # Without that machine, or with room for one piece on each, there is no way.
        self.assertEqual(raised(NoWay, move, table, prices, placing, 0, 1, 2, [2]).blocks, ())
        self.assertEqual(raised(NoWay, move, table, prices, placing, 0, 1, 1).blocks, ())

    def test_a_swap_without_room(self):
        table = Table(2, 2, [[(1, 0)], [(0, 1)], [(1, 0)], [(0, 1)]])
        prices = Prices([[1]] * 4, [1] * 4, [0] * 4)
        placing = Placing(3, [0, 1, 0, 1])
        self.assertFalse(self.check(table, prices, placing, 0, 1, 2, [2]))
        self.assertTrue(self.check(table, prices, placing, 0, 1, 2, []))
        self.assertTrue(self.check(table, prices, placing, 0, 1, 3, [2]))

    def test_full_machines(self):
        placing = Placing(2, [0, 0, 1, 1])
        self.assertTrue(self.check(TABLE, PRICES, placing, 0, 1, 2, []))
        crowded = Placing(3, [0, 0, 0, 0])
        for limit in range(5):
            self.assertEqual(self.check(TABLE, PRICES, crowded, 0, 0, limit, []), limit >= 2)
            self.assertEqual(self.check(TABLE, PRICES, crowded, 0, 1, limit, []), limit >= 2)
            self.assertEqual(self.check(TABLE, PRICES, crowded, 0, 0, limit, [1]), limit >= 2)
        self.assertEqual(raised(NoWay, move, TABLE, PRICES, crowded, 0, 0, 0).blocks, ())

    def test_a_low_that_no_placing_has(self):
        placing = Placing(3, [0, 0, 1, 2])
        for low in [1, 2, 6]:
            for blocked in [Placing(3, [0, 0, 0, 2]), Placing(3, [None, None, None, 2]), Placing(1, [0] * 4)]:
                blocks = raised(NoWay, move, TABLE, PRICES, blocked, low, 0, 6).blocks
                self.assertEqual([where for where, _, _ in blocks], [blocked.where])
        self.assertTrue(self.check(TABLE, PRICES, placing, 1, 1, 2, []))
        for high in [2, 3, 6]:
            self.assertFalse(self.check(TABLE, PRICES, placing, 1, high, 2, []))

    def test_steps_without_cost(self):
        free = Prices([[0]] * 4, [0] * 4, [0] * 4)
        for low, high in [(0, 1), (1, 1), (0, 2), (1, 2)]:
            for where in [[0, 1, 2, 2], [0, 0, 0, 0], [0, 0, 1, None]]:
                self.check(TABLE, free, Placing(4, where), low, high, 1, [])
        cost, steps, _ = move(TABLE, free, Placing(4, [0, 0, 0, 0]), 0, 2, 1)
        self.assertEqual((cost, [step[:2] for step in steps]), (0, [(0, 1), (1, 2), (2, 3)]))

    def test_more_asked_for_gets_nothing_cheaper(self):
        for table, prices, placing, low, high, limit, closed in cases(82, 80):
            harder = [(low + 1, high, limit, closed), (low, high + 1, limit, closed), (low, high, limit - 1, closed)]
            harder.append((low, high, limit, list(range(placing.machines - 1))))
            for case in harder[: 4 if not closed else 3]:
                try:
                    cost = move(table, prices, placing, *case)[0]
                except NoWay:
                    continue
                self.assertLessEqual(move(table, prices, placing, low, high, limit, closed)[0], cost)

    def test_order_and_change_of_data_change_no_cost(self):
        random = Random(83)
        for table, prices, placing, low, high, limit, closed in cases(84, 60):
            order = random.sample(range(len(table)), len(table))
            columns = [[row[piece] for piece in order] for row in (prices.parts, prices.wholes, prices.opens)]
            moved = Placing(placing.machines, [placing.where[piece] for piece in order])
            turned = Table(table.prime, table.size, [[row[::-1] for row in parts] for parts in table.pieces])
            told = []
            ordered = (table.ordered(order), Prices(*columns), moved)
            for one, cost, where in [(table, prices, placing), ordered, (turned, prices, placing)]:
                try:
                    told.append(move(one, cost, where, low, high, limit, closed)[0])
                except NoWay:
                    told.append(None)
            self.assertEqual(told, [told[0]] * 3)

    def test_greatest_inputs_within_seconds(self):
        random = Random(85)
        for prime, size, machines, counts in [(2, 6, 3, [2, 2, 2, 2, 1, 1]), (3, 6, 3, [2, 2, 2, 2, 1, 1]), (3, 2, 3, [1] * 6),
                                              (2, 1, 6, [1, 1, 1, 1]), (2, 6, 4, [2] * 5), (7, 1, 6, [1, 3, 3, 3])]:  # fmt: skip
            table = random_table(random, prime, size, counts)
            while not table.is_whole:
                table = random_table(random, prime, size, counts)
            prices = random_prices(random, table, 100)
            for where in [[0] * len(counts), [0, None, 1, 2, 1, 1][: len(counts)], [1, 0, 0, 1, 2, 1][: len(counts)]]:
                for low, high in [(0, 1), (0, 2), (0, 6), (1, 2)]:
                    begun = time.monotonic()
                    try:
                        steps = move(table, prices, Placing(machines, where), low, high, 3)[1]
                        roomy = None not in where and max(where.count(machine) for machine in where) <= 3
                        survives = survival(table, Placing(machines, where)) >= max(low, high)
                        self.assertEqual(steps == (), roomy and survives)
                    except NoWay as error:
                        self.assertIs(type(error.blocks), tuple)
                    self.assertLess(time.monotonic() - begun, 10)

    def test_errors_in_order(self):
        short = Prices([[1]] * 3, [1] * 3, [1] * 3)
        placing = Placing(3, [0, 0, 1, 2])
        for cost in ODD + [0, [], TABLE, short, Net(PRICES, [0] * 4, [], 0)]:
            self.assertIs(raised(InvalidCost, move, TABLE, cost, None, None, None, None, None).value, cost)
        for other in ODD + [0, (0, 0, 1, 2), TABLE, Placing(3, [0, 1, 2]), Placing(3, [0] * 5)]:
            self.assertIs(raised(InvalidPlacing, move, TABLE, PRICES, other, None, None, None, None).value, other)
        for number in NO_INTEGERS + [-1, 7, 10**25]:
            self.assertIs(raised(InvalidNumber, move, TABLE, PRICES, placing, number, None, None, None).value, number)
            self.assertIs(raised(InvalidNumber, move, TABLE, PRICES, placing, 0, number, None, None).value, number)
            self.assertIs(raised(InvalidNumber, move, TABLE, PRICES, placing, 0, 0, number, None).value, number)
        for closed in NO_LISTS + [[1, 0], [0, 0], [3], [-1], [True], [None], ["0"], [(0,)], [0, 1, 2, 3]]:
            self.assertIs(raised(InvalidNumber, move, TABLE, PRICES, placing, 0, 0, 0, closed).value, closed)

    def test_limit_exceeded_ahead_of_no_way(self):
        for many, machines, exceeded in [(6, 4, True), (6, 3, False), (5, 5, True), (5, 4, False), (4, 6, False)]:
            table = Table(2, 1, [[(0,)]] * many)
            prices = Prices([[1]] * many, [1] * many, [0] * many)
            placing = Placing(machines, [0] * many)
            if exceeded:
                self.assertEqual(raised(LimitExceeded, move, table, prices, placing, 0, 0, 6).limit, 4096)
            else:
                raised(NoWay, move, table, prices, placing, 0, 0, 6)

    def test_lists_and_tuples_alike(self):
        placing = Placing(3, [0, 0, 1, 2])
        told = move(TABLE, PRICES, placing, 0, 1, 2, [0])
        self.assertEqual(told, move(TABLE, PRICES, placing, 0, 1, 2, (0,)))
        self.assertTrue(all(type(item) is tuple for item in [told, told[1], told[2], told[1][0], told[1][0][2]]))


if __name__ == "__main__":
    unittest.main()
