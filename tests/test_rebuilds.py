import time
import unittest
from itertools import permutations
from random import Random

from leastreads.costs import Prices
from leastreads.errors import InvalidCost, InvalidPieces, Lost
from leastreads.nets import Net
from leastreads.reads import least
from leastreads.rebuilds import in_order, together
from leastreads.tables import Table
from net_support import is_zero_at, least_spots, random_prices, wrong_line
from support import NO_LISTS, ODD, is_proper_data, raised, random_table, rows_at, subsets, value_of

TABLE = Table(3, 2, [[(1, 0)], [(0, 1)], [(1, 1)], [(1, 2)]])
PRICES = Prices([[5], [2], [2], [3]], [9, 9, 9, 9], [0, 0, 0, 0])
SHAPES = [(2, 2, [1, 1, 2, 1]), (2, 3, [2, 1, 2, 1]), (3, 2, [1, 2, 1, 1]), (3, 2, [1, 1, 1, 1, 1]), (5, 2, [2, 1, 2])]


def cases(seed, many):
    """Generate tables, prices and pieces that are gone."""
    random = Random(seed)
    for number in range(many):
        prime, size, counts = SHAPES[number % len(SHAPES)]
        table = random_table(random, prime, size, counts)
        pieces = sorted(random.sample(range(len(table)), random.randint(1, len(table) - number % 2)))
        yield table, random_prices(random, table), pieces


def step_of(table, prices, pieces, rebuilt, piece):
    """Return (cost, spots) of the least reads of a piece, the rebuilt ones and those that are not gone there."""
    gone = [spot for spot in table if spot[0] in pieces and spot[0] not in rebuilt]
    return least_spots(table, prices, gone, [table[spot] for spot in table if spot[0] == piece])


def best_order(table, prices, pieces):
    """Return (cost, steps, heights) by going through all orders, or None."""
    rows = []
    steps = {}
    for rebuilt in subsets(pieces):
        for piece in set(pieces) - set(rebuilt):
            steps[rebuilt, piece] = step_of(table, prices, pieces, rebuilt, piece)
    heights = {}
    for order in permutations(pieces):
        told = [steps[tuple(sorted(order[:number])), piece] for number, piece in enumerate(order)]
        if None in told:
            return None
        rows.append((sum(price for price, _ in told), tuple(zip(order, [spots for _, spots in told]))))
        for number in range(len(order) + 1):
            rebuilt, rest = tuple(sorted(order[:number])), sum(price for price, _ in told[number:])
            heights[rebuilt] = min(rest, heights.get(rebuilt, rest))
    cost = min(price for price, _ in rows)
    first = min((tuple(piece for piece, _ in row), row) for price, row in rows if price == cost)[1]
    return cost, first, tuple((rebuilt, heights[rebuilt]) for rebuilt in subsets(pieces))


class RebuildTest(unittest.TestCase):
    def check_blind(self, table, pieces, blind):
        others = [spot for spot in table if spot[0] not in pieces]
        parts = rows_at(table, [spot for spot in table if spot[0] in pieces])
        self.assertTrue(is_proper_data(table, blind))
        self.assertTrue(is_zero_at(table, others, blind))
        self.assertTrue(any(value_of(table.prime, row, blind) for row in parts))

    def test_in_order_against_all_orders(self):
        lost = 0
        for table, prices, pieces in cases(31, 100):
            found = best_order(table, prices, pieces)
            if found is None:
                lost += 1
                self.check_blind(table, pieces, raised(Lost, in_order, table, prices, pieces).blind)
            else:
                self.assertEqual(in_order(table, prices, pieces), found)
                self.assertEqual(in_order(table=table, cost=prices, pieces=tuple(pieces)), found)
        self.assertTrue(20 < lost < 80)

    def test_together_is_right_and_the_least(self):
        lost = 0
        for table, prices, pieces in cases(32, 100):
            gone = [spot for spot in table if spot[0] in pieces]
            wishes = [table[spot] for spot in gone]
            found = least_spots(table, prices, gone, wishes)
            if found is None:
                lost += 1
                self.check_blind(table, pieces, raised(Lost, together, table, prices, pieces).blind)
            else:
                reads = together(table, prices, pieces)
                self.assertEqual((reads.cost, reads.spots), found)
                self.assertIsNone(wrong_line(table, prices, gone, wishes, reads.paper()))
                self.assertEqual(reads, together(table=table, cost=prices, pieces=tuple(pieces)))
                data = (1,) * table.size
                stored = table(data)
                self.assertEqual(reads(stored.without(pieces)), tuple(stored[spot] for spot in gone))
        self.assertTrue(20 < lost < 80)

    def test_together_costs_at_most_what_the_pieces_cost_one_by_one(self):
        for table, prices, pieces in cases(33, 60):
            try:
                cost = together(table, prices, pieces).cost
            except Lost:
                continue
            gone = table.spots_of(pieces)
            alone = [least(table, prices, gone, [table[s] for s in table.spots_of([piece])]).cost for piece in pieces]
            self.assertLessEqual(cost, sum(alone))
            self.assertGreaterEqual(cost, max(alone))

    def test_one_piece_gone(self):
        for piece in range(4):
            reads = together(TABLE, PRICES, [piece])
            told = in_order(TABLE, PRICES, [piece])
            self.assertEqual(told, (reads.cost, ((piece, reads.spots),), (((), reads.cost), ((piece,), 0))))

    def test_all_pieces_gone(self):
        self.assertEqual(raised(Lost, together, TABLE, PRICES, [0, 1, 2, 3]).blind, (0, 1))
        self.check_blind(TABLE, [0, 1, 2, 3], raised(Lost, in_order, TABLE, PRICES, [0, 1, 2, 3]).blind)
        nothing = Table(2, 2, [[(0, 0)], [(0, 0), (0, 0)]])
        free = Prices([[3], [3, 3]], [9, 9], [1, 1])
        self.assertEqual(together(nothing, free, [0, 1]).paper(), ((), 0, ((), (), ()), ()))
        heights = (((), 0), ((0,), 0), ((1,), 0), ((0, 1), 0))
        self.assertEqual(in_order(nothing, free, [0, 1]), (0, ((0, ()), (1, ())), heights))

    def test_pieces_that_help_each_other(self):
        # Each of 1 and 2 is dear to make anew from the others, and cheap from the other one, once that is there.
        table = Table(2, 2, [[(1, 0), (0, 1)], [(1, 0)], [(1, 0)], [(1, 1)]])
        prices = Prices([[9, 9], [1], [1], [20]], [99, 99, 99, 99], [0, 0, 0, 0])
        cost, steps, heights = in_order(table, prices, [1, 2])
        self.assertEqual((cost, steps), (10, ((1, ((0, 0),)), (2, ((1, 0),)))))
        self.assertEqual(heights, (((), 10), ((1,), 1), ((2,), 1), ((1, 2), 0)))
        self.assertEqual(together(table, prices, [1, 2]).cost, 9)
        free = Prices([[9, 9], [1], [0], [20]], [99, 99, 99, 99], [0, 0, 0, 0])
        self.assertEqual(in_order(table, free, [1, 2])[:2], (9, ((2, ((0, 0),)), (1, ((2, 0),)))))

    def test_of_equal_orders_the_first(self):
        table = Table(2, 1, [[(1,)]] * 4)
        prices = Prices([[1]] * 4, [1] * 4, [0] * 4)
        cost, steps, _ = in_order(table, prices, [0, 2, 3])
        self.assertEqual((cost, steps), (3, ((0, ((1, 0),)), (2, ((0, 0),)), (3, ((0, 0),)))))

    def test_the_order_of_pieces_changes_no_cost(self):
        random = Random(34)
        for table, prices, pieces in cases(35, 30):
            order = random.sample(range(len(table)), len(table))
            rows = [[column[piece] for piece in order] for column in (prices.parts, prices.wholes, prices.opens)]
            moved = sorted(order.index(piece) for piece in pieces)
            try:
                told = in_order(table, prices, pieces)[0], together(table, prices, pieces).cost
            except Lost:
                raised(Lost, in_order, table.ordered(order), Prices(*rows), moved)
                continue
            other = in_order(table.ordered(order), Prices(*rows), moved)[0]
            self.assertEqual(told, (other, together(table.ordered(order), Prices(*rows), moved).cost))

    def test_greatest_tables_within_seconds(self):
        random = Random(36)
        for prime in [2, 3]:
            counts = [1, 2, 2, 2, 2, 1]
            table = random_table(random, prime, 6, counts)
            whole = Table(prime, 1, [[[row[0] or 1] for row in parts] for parts in table.pieces])
            begun = time.monotonic()
            for one, pieces in [(table, [0]), (table, [0, 5]), (whole, [0, 1, 2, 3, 4]), (whole, [0, 1, 2, 3, 4, 5])]:
                prices = random_prices(random, one, 100)
                for call in [together, in_order]:
                    try:
                        call(one, prices, pieces)
                    except Lost as lost:
                        self.check_blind(one, pieces, lost.blind)
            self.assertLess(time.monotonic() - begun, 10)

    def test_wrong_costs(self):
        short = Prices([[1]] * 3, [1] * 3, [1] * 3)
        for cost in ODD + [0, [], TABLE, short, Net(PRICES, [0] * 4, [], 0)]:
            for call in [together, in_order]:
                self.assertIs(raised(InvalidCost, call, TABLE, cost, None).value, cost)

    def test_wrong_pieces(self):
        wrong = [[], (), [1, 0], [0, 0], [4], [-1], [True], [0, None], ["0"], [(0,)], [0, 1, 2, 3, 4], 0, 1]
        for pieces in ODD + wrong:
            for call in [together, in_order]:
                self.assertIs(raised(InvalidPieces, call, TABLE, PRICES, pieces).value, pieces)

    def test_no_reference_kept(self):
        pieces = [0, 1]
        reads = together(TABLE, PRICES, pieces)
        paper = reads.paper()
        pieces.clear()
        self.assertEqual(reads.paper(), paper)
        self.assertTrue(all(type(item) is tuple for item in in_order(TABLE, PRICES, [0, 1])[1:]))


if __name__ == "__main__":
    unittest.main()
