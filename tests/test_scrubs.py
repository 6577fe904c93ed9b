import time
import unittest
from itertools import product
from random import Random

from leastreads.costs import Prices
from leastreads.errors import InvalidCost, InvalidNumber, InvalidPieces, InvalidSpots, Unseen
from leastreads.nets import Net
from leastreads.scrubs import scrub
from leastreads.tables import Table
from net_support import is_zero_at, random_prices
from support import (
    NO_INTEGERS, NO_LISTS, ODD, are_had, data_of, is_proper_data, priced, raised, random_sublist, random_table,
    rows_at, subsets, value_of,
)  # fmt: skip

TABLE = Table(3, 2, [[(1, 0)], [(0, 1)], [(1, 1)], [(1, 2)]])
PRICES = Prices([[5], [2], [2], [3]], [9, 9, 9, 9], [0, 0, 0, 0])
SHAPES = [(2, 1, [1, 1, 1, 1]), (2, 2, [1, 2, 1, 1]), (2, 2, [1] * 5), (3, 1, [1, 1, 2]), (3, 2, [1] * 5), (2, 3, [2, 2, 2])]


def cases(seed, many):
    """Generate tables, prices, gone spots, watched pieces and how many of them can be wrong."""
    random = Random(seed)
    for number in range(many):
        prime, size, counts = SHAPES[number % len(SHAPES)]
        table = random_table(random, prime, size, counts)
        watched = sorted(random.sample(range(len(table)), random.choice([1, 1, 2, 3])))
        others = [spot for spot in table if spot[0] not in watched]
        gone = random.sample(others, min(len(others), random.choice([0, 0, 1])))
        yield table, random_prices(random, table), gone, watched, random.choice([1, 1, 2, 3, 6])


def groups_of(watched, most):
    return [group for group in subsets(watched) if 1 <= len(group) <= most]


def sees(table, spots, watched, most):
    """Return whether spots see wrong pieces, by going through all wrong values and all data that could fit."""
    patterns = {tuple(value_of(table.prime, row, data) for row in rows_at(table, spots)) for data in data_of(table.prime, table.size)}
    for group in groups_of(watched, most):
        own = [spot for spot in table if spot[0] in group]
        for values in product(range(table.prime), repeat=len(own)):
            bent = {spot: value for spot, value in zip(own, values) if value}
            if {piece for piece, _ in bent} == set(group):
                # The other pieces are right for all zeros, so that they read 0; all data behave like these.
                if tuple(bent.get(spot, 0) for spot in spots) in patterns:
                    return False
    return True


def does(table, spots, watched, most):
    """Return whether spots do what point 13 asks for, by its second sentence."""
    if not all(spot in spots for spot in table if spot[0] in watched):
        return False
    for group in groups_of(watched, most):
        others = [spot for spot in spots if spot[0] not in group]
        if not are_had(table, others, [row for piece in group for row in table.pieces[piece]]):
            return False
    return True


def is_refuter(table, watched, most, value):
    pieces, data = value
    if type(value) is not tuple or type(pieces) is not tuple or pieces not in groups_of(watched, most):
        return False
    parts = [spot for spot in table if spot[0] in pieces]
    return is_proper_data(table, data) and not is_zero_at(table, parts, data)


class ScrubTest(unittest.TestCase):
    def check(self, table, prices, gone, watched, most):
        """Check what scrub tells against all sets of spots; return whether it tells reads."""
        there = [spot for spot in table if spot not in gone]
        rows = sorted((priced(prices, spots), len(spots), spots) for spots in subsets(there))
        right = [row for row in rows if does(table, row[2], watched, most)]
        if not right:
            error = raised(Unseen, scrub, table, prices, gone, watched, most)
            self.assertTrue(is_refuter(table, watched, most, (error.group, error.blind)))
            self.assertTrue(is_zero_at(table, [s for s in there if s[0] not in error.group], error.blind))
            return False
        spots, cost, refuters = scrub(table, prices, gone, watched, most)
        self.assertEqual((cost, spots), right[0][::2])
        self.assertIs(type(refuters), tuple)
        for value in refuters:
            self.assertTrue(is_refuter(table, watched, most, value), value)
        needed = {spot for spot in table if spot[0] in watched}
        for price, _, chosen in rows:
            if price < cost and needed <= set(chosen):
                rests = [([s for s in chosen if s[0] not in pieces], data) for pieces, data in refuters]
                self.assertTrue(any(is_zero_at(table, rest, data) for rest, data in rests), chosen)
        self.assertLessEqual(priced(prices, sorted(needed)), cost)
        return True

    def test_against_all_sets_of_spots(self):
        told = [self.check(*case) for case in cases(61, 180)]
        self.assertGreater(told.count(True), 50)
        self.assertGreater(told.count(False), 50)

    def test_what_is_read_sees_all_wrong_pieces_and_nothing_cheaper_does(self):
        for table, prices, gone, watched, most in cases(62, 36):
            there = [spot for spot in table if spot not in gone]
            try:
                spots, cost, _ = scrub(table, prices, gone, watched, most)
            except Unseen:
                self.assertFalse(sees(table, there, watched, most))
                continue
            self.assertTrue(sees(table, spots, watched, most))
            for chosen in subsets(there):
                if priced(prices, chosen) < cost:
                    self.assertFalse(sees(table, chosen, watched, most))

    def test_what_is_read_fits_no_data_for_all_true_data(self):
        spots = scrub(TABLE, PRICES, [], [0, 1], 2)[0]
        for true in data_of(3, 2):
            for values in product(range(3), repeat=2):
                stored = TABLE(true).bent(0, values[:1]).bent(1, values[1:])
                wrong = stored - TABLE(true)
                fitting = [d for d in data_of(3, 2) if all(TABLE(d)[spot] == stored[spot] for spot in spots)]
                self.assertEqual(fitting == [], len(wrong) > 0)

    def test_ordinary_answers(self):
        self.assertEqual(scrub(TABLE, PRICES, [], [0])[:2], (((0, 0), (1, 0), (2, 0)), 9))
        self.assertEqual(scrub(table=TABLE, cost=PRICES, gone=[(1, 0)], watched=[0])[:2], (((0, 0), (2, 0), (3, 0)), 10))
        self.assertEqual(scrub(TABLE, PRICES, [], [0, 1], most=2)[:2], (tuple(TABLE), 12))
        error = raised(Unseen, scrub, TABLE, PRICES, [(1, 0), (2, 0)], [0])
        self.assertEqual((error.group, error.blind), ((0,), (1, 1)))

    def test_one_and_all_pieces_watched_and_most_1_and_6(self):
        same = Table(2, 1, [[(1,)]] * 6)
        prices = Prices([[1]] * 6, [1] * 6, [0] * 6)
        everything = list(range(6))
        for most in range(1, 6):
            self.assertEqual(scrub(same, prices, [], everything, most), (tuple(same), 6, ()))
            self.assertEqual(scrub(same, prices, [], [5], most), (((0, 0), (5, 0)), 2, (((5,), (1,)),)))
        self.assertEqual(raised(Unseen, scrub, same, prices, [], everything, 6).group, tuple(everything))
        self.assertEqual(scrub(same, prices, [], [0, 1, 2, 3, 4], 6)[:2], (tuple(same), 6))
        for table in [same, TABLE, Table(2, 1, [[(1,)], [(0,)]])]:
            costs = random_prices(Random(63), table)
            for watched in subsets(range(len(table)))[1:]:
                for most in [1, 2, 6]:
                    self.check(table, costs, [], list(watched), most)

    def test_a_watched_piece_of_zeros_is_seen_by_itself(self):
        table = Table(3, 1, [[(0,), (0,)], [(1,)]])
        prices = Prices([[4, 4], [0]], [6, 1], [1, 1])
        self.assertEqual(scrub(table, prices, [(1, 0)], [0], 6), (((0, 0), (0, 1)), 7, ()))
        self.assertEqual(raised(Unseen, scrub, table, prices, [], [1]).blind, (1,))

    def test_with_fewer_spots_or_more_watched_nothing_gets_cheaper(self):
        random = Random(64)
        for table, prices, gone, watched, most in cases(65, 120):
            others = [spot for spot in table if spot[0] not in watched]
            further = sorted(set(gone) | set(random_sublist(random, others)))
            wider = sorted(set(watched) | {p for p in range(len(table)) if not any(s[0] == p for s in gone)})
            for harder in [(further, watched, most), (gone, wider, most), (gone, watched, min(6, most + 1))]:
                try:
                    cost = scrub(table, prices, *harder)[1]
                except Unseen:
                    continue
                self.assertLessEqual(scrub(table, prices, gone, watched, most)[1], cost)

    def test_the_order_of_pieces_and_parts_changes_no_cost(self):
        random = Random(66)
        for table, prices, gone, watched, most in cases(67, 60):
            order = random.sample(range(len(table)), len(table))
            other = Table(table.prime, table.size, [table.pieces[piece][::-1] for piece in order])
            parts = [prices.parts[piece][::-1] for piece in order]
            costs = Prices(parts, [prices.wholes[p] for p in order], [prices.opens[p] for p in order])
            moved = sorted((order.index(piece), len(table.pieces[piece]) - 1 - part) for piece, part in gone)
            try:
                cost = scrub(table, prices, gone, watched, most)[1]
            except Unseen:
                cost = None
            try:
                self.assertEqual(scrub(other, costs, moved, sorted(order.index(p) for p in watched), most)[1], cost)
            except Unseen:
                self.assertIsNone(cost)

    def test_greatest_tables_within_seconds(self):
        random = Random(68)
        for prime in [2, 3]:
            for counts in [[2, 2, 2, 2, 1, 1], [1, 1, 1, 1, 3, 3]]:
                table = random_table(random, prime, 6, counts)
                narrow = Table(prime, 2, [[row[:2] for row in parts] for parts in table.pieces])
                begun = time.monotonic()
                for one in [table, narrow]:
                    for watched, most in [([0], 1), ([0, 1, 2], 2), ([2, 3, 4, 5], 6), ([0, 1, 2, 3, 4, 5], 1)]:
                        try:
                            spots = scrub(one, random_prices(random, one, 100), [], watched, most)[0]
                            self.assertTrue(set(one.spots_of(watched)) <= set(spots))
                        except Unseen as error:
                            self.assertTrue(set(error.group) <= set(watched))
                self.assertLess(time.monotonic() - begun, 10)

    def test_wrong_costs(self):
        short = Prices([[1]] * 3, [1] * 3, [1] * 3)
        for cost in ODD + [0, [], TABLE, short, Net(PRICES, [0] * 4, [], 0)]:
            self.assertIs(raised(InvalidCost, scrub, TABLE, cost, None, None, None).value, cost)

    def test_wrong_gone_spots(self):
        wrong = [[(1, 0), (0, 0)], [(0, 0), (0, 0)], [(0, 1)], [(4, 0)], [[0, 0]], [(0, 0), None], (0, 0), [(False, 0)]]
        for gone in NO_LISTS + wrong:
            self.assertIs(raised(InvalidSpots, scrub, TABLE, PRICES, gone, None, None).value, gone)

    def test_wrong_watched_pieces(self):
        wrong = [[], (), [1, 0], [0, 0], [4], [-1], [True], [None], ["0"], [(0,)], [0, 1, 2, 3, 4], [2], [0, 2], (1, 2, 3)]
        for watched in NO_LISTS + wrong:
            self.assertIs(raised(InvalidPieces, scrub, TABLE, PRICES, [(2, 0)], watched, None).value, watched)

    def test_wrong_most_ahead_of_unseen(self):
        everything = [(1, 0), (2, 0), (3, 0)]
        for most in NO_INTEGERS + [0, 7, -1, 10**25]:
            self.assertIs(raised(InvalidNumber, scrub, TABLE, PRICES, everything, [0], most).value, most)
        for most in range(1, 7):
            raised(Unseen, scrub, TABLE, PRICES, everything, [0], most)

    def test_lists_and_tuples_alike(self):
        told = scrub(TABLE, PRICES, [(1, 0)], [0, 2])
        self.assertEqual(told, scrub(TABLE, PRICES, ((1, 0),), (0, 2)))
        self.assertTrue(all(type(item) is tuple for item in [told, told[0], told[2]]))


if __name__ == "__main__":
    unittest.main()
