import inspect
import time
import unittest
from random import Random

from leastreads.costs import Prices
from leastreads.errors import InvalidCost, InvalidNumber, InvalidSpots, InvalidStored, InvalidWishes, Lost
from leastreads.nets import Net
from leastreads.reads import Reads, cheaper, extras, least
from leastreads.stored import Stored
from leastreads.sums import Sum
from leastreads.tables import Table
from net_support import all_choices, is_zero_at, least_spots, random_net, random_prices, wrong_line
from support import (
    NO_INTEGERS, NO_LISTS, ODD, EqualToAll, cost_of, data_of, is_proper_data, raised, random_sublist, random_sums,
    random_table, rows_at, span_of, subsets, units_of, value_of,
)  # fmt: skip

TABLE = Table(3, 2, [[(1, 0)], [(0, 1)], [(1, 1)], [(1, 2)]])
PRICES = Prices([[5], [2], [2], [3]], [9, 9, 9, 9], [0, 0, 0, 0])
NET = Net(PRICES, [0, 1, 1, 0], [(0, 1, 1)], 0)
ONE = Sum(3, (1, 0))
SHAPES = [
    (2, 1, [1, 1]), (2, 2, [2, 1, 1]), (2, 3, [2, 2, 1]), (2, 3, [1, 1, 1, 1, 1]), (2, 4, [3, 2, 1]), (3, 1, [1, 2]),
    (3, 2, [2, 1, 2]), (3, 3, [2, 2, 2]), (3, 3, [1, 1, 1, 1]), (5, 2, [1, 2, 1]), (7, 2, [2, 2]), (7, 1, [1, 1, 1]),
]  # fmt: skip


def cases(seed, many, make_cost, wishes_most=3):
    """Generate tables, costs, gone spots and wishes."""
    random = Random(seed)
    for number in range(many):
        prime, size, counts = SHAPES[number % len(SHAPES)]
        table = random_table(random, prime, size, counts)
        gone = random_sublist(random, table) if number % 3 else []
        wishes = random_sums(random, table, random.randint(1, wishes_most))
        yield table, make_cost(random, table), gone, wishes


class LeastTest(unittest.TestCase):
    def check(self, table, cost, gone, wishes):
        """Check what least tells against all sets of spots and all data; return whether it tells reads."""
        found = least_spots(table, cost, gone, wishes)
        if found is None:
            blind = raised(Lost, least, table, cost, gone, wishes).blind
            readable = {spot for _, _, spots in all_choices(table, cost, gone) for spot in spots}
            self.assertTrue(is_proper_data(table, blind))
            self.assertTrue(is_zero_at(table, sorted(readable), blind))
            self.assertTrue(any(value_of(table.prime, item.factors, blind) for item in wishes))
            return False
        reads = least(table, cost, gone, wishes)
        self.assertEqual((reads.cost, reads.spots), found)
        self.assertIsNone(wrong_line(table, cost, gone, wishes, reads.paper()))
        return True

    def test_example(self):
        reads = least(TABLE, PRICES, [], [ONE])
        self.assertIsInstance(reads, Reads)
        self.assertEqual([reads.spots, reads.cost], [((1, 0), (2, 0)), 4])
        self.assertEqual(reads.combinations, ((((1, 0), 2), ((2, 0), 1)),))
        self.assertEqual(reads(TABLE((2, 1))), (2,))
        self.assertEqual(reads.paper(), (reads.spots, reads.cost, reads.combinations, reads.blinds))

    def test_prices_against_all_sets_and_all_data(self):
        told = [self.check(*case) for case in cases(1, 240, random_prices)]
        self.assertGreater(told.count(True), 60)
        self.assertGreater(told.count(False), 60)

    def test_nets_against_all_sets_and_all_data(self):
        told = [self.check(*case) for case in cases(2, 144, random_net, 1)]
        self.assertGreater(told.count(True), 30)
        self.assertGreater(told.count(False), 30)

    def test_nothing_gone_and_all_gone(self):
        for wishes in [units_of(TABLE), [Sum(3, (0, 0))], [Sum(3, (0, 0)), ONE]]:
            self.assertTrue(self.check(TABLE, PRICES, [], wishes))
            self.check(TABLE, PRICES, list(TABLE), wishes)
        self.assertEqual(raised(Lost, least, TABLE, PRICES, list(TABLE), [ONE]).blind, (1, 0))

    def test_wishes_that_no_spot_is_needed_for(self):
        for many in [1, 2, 10]:
            reads = least(TABLE, PRICES, list(TABLE), [Sum(3, (0, 0))] * many)
            self.assertEqual(reads.paper(), ((), 0, ((),) * many, ()))
            self.assertEqual(reads(Stored([None] * 4)), (0,) * many)
        self.assertEqual(least(TABLE, NET, [], [Sum(3, (0, 0))]).paper(), ((), 0, ((),), ()))

    def test_ten_wishes(self):
        table = Table(2, 4, [[(1, 0, 0, 0), (0, 1, 1, 0)], [(0, 0, 1, 0)], [(0, 0, 0, 1), (1, 1, 1, 1)]])
        wishes = random_sums(Random(3), table, 10)
        for cost in [Prices([[1, 2], [3], [2, 1]], [2, 9, 3], [0, 1, 0]), Prices([[0, 0], [0], [0, 0]], [0] * 3, [0] * 3)]:
            self.assertTrue(self.check(table, cost, [], wishes))
            self.assertEqual(len(least(table, cost, [], wishes)(table((1, 0, 1, 1)))), 10)

    def test_whole_price_just_at_below_and_above_the_sum(self):
        table = Table(2, 2, [[(1, 0), (0, 1)], [(1, 0)], [(0, 1)]])
        told = []
        for whole in [3, 4, 5]:
            prices = Prices([[2, 2], [2], [2]], [whole, 9, 9], [0, 0, 0])
            self.assertTrue(self.check(table, prices, [], units_of(table)))
            reads = least(table, prices, [], units_of(table))
            told.append((reads.cost, reads.spots))
        self.assertEqual(told, [(3, ((0, 0), (0, 1))), (4, ((0, 0), (0, 1))), (4, ((0, 0), (0, 1)))])

    def test_of_equal_costs_the_fewest_spots_and_of_these_the_first(self):
        table = Table(3, 2, [[(1, 0), (0, 1)], [(1, 1)], [(2, 2), (1, 1)]])
        free = Prices([[0, 0], [0], [0, 0]], [0, 0, 0], [0, 0, 0])
        self.assertEqual(least(table, free, [], [Sum(3, (1, 1))]).spots, ((1, 0),))
        self.assertEqual(least(table, free, [(1, 0)], [Sum(3, (1, 1))]).spots, ((2, 0),))
        self.assertEqual(least(table, free, [], units_of(table)).spots, ((0, 0), (0, 1)))
        self.assertEqual(least(table, free, [(0, 0)], units_of(table)).spots, ((0, 1), (1, 0)))
        self.assertEqual(least(table, free, [], units_of(table)).blinds, ())

    def test_fewer_spots_there_or_more_wishes_get_nothing_cheaper(self):
        random = Random(4)
        for table, cost, gone, wishes in cases(5, 60, random_prices):
            more_gone = sorted(set(gone) | set(random_sublist(random, table)))
            for further, more in [(more_gone, wishes), (gone, wishes + random_sums(random, table, 1))]:
                try:
                    harder = least(table, cost, further, more)
                except Lost:
                    continue
                self.assertLessEqual(least(table, cost, gone, wishes).cost, harder.cost)

    def test_order_and_change_of_data_change_no_cost(self):
        random = Random(6)
        change = [(1, 1, 0), (0, 1, 2), (0, 0, 1)]

        def changed(row):
            return tuple(sum(factor * change[k][place] for k, factor in enumerate(row)) % 3 for place in range(3))

        for _ in range(40):
            table = random_table(random, 3, 3, [2, 1, 2, 1])
            prices = random_prices(random, table)
            wishes = random_sums(random, table, 2)
            order = random.sample(range(4), 4)
            rows = [[prices.parts[piece], prices.wholes[piece], prices.opens[piece]] for piece in order]
            other = Prices([row[0][::-1] for row in rows], [row[1] for row in rows], [row[2] for row in rows])
            ordered = Table(3, 3, [table.pieces[piece][::-1] for piece in order])
            moved = Table(3, 3, [[changed(row) for row in parts] for parts in table.pieces])
            told = []
            for one, cost, items in [
                (table, prices, wishes),
                (ordered, other, wishes),
                (moved, prices, [Sum(3, changed(item.factors)) for item in wishes]),
            ]:
                try:
                    told.append(least(one, cost, [], items).cost)
                except Lost:
                    told.append(None)
            self.assertEqual(told, [told[0]] * 3)

    def test_greatest_tables_within_seconds(self):
        random = Random(7)
        for prime in [2, 3]:
            for counts in [[2, 2, 2, 2, 1, 1], [3, 3, 1, 1, 1, 1], [1, 1, 2, 2, 2, 2]]:
                table = random_table(random, prime, 6, counts)
                begun = time.monotonic()
                prices = random_prices(random, table, 100)
                try:
                    reads = least(table, prices, [], units_of(table))
                    self.assertEqual(len(reads(table((1,) * 6))), 6)
                except Lost as lost:
                    self.assertTrue(is_zero_at(table, list(table), lost.blind))
                net = random_net(random, table, 100)
                try:
                    least(table, net, [], random_sums(random, table, 1))
                except Lost:
                    pass
                self.assertEqual(len(list(cheaper(table, prices, [], 10**6))), 1024)
                self.assertLess(time.monotonic() - begun, 10)

    def test_lists_and_tuples_alike_and_no_reference_kept(self):
        gone, wishes = [(0, 0)], [ONE, Sum(3, (0, 1))]
        reads = least(table=TABLE, cost=PRICES, gone=gone, wishes=wishes)
        self.assertEqual(reads, least(TABLE, PRICES, tuple(gone), tuple(wishes)))
        paper = reads.paper()
        gone.clear()
        wishes.clear()
        self.assertEqual(reads.paper(), paper)
        self.assertEqual(reads(TABLE((1, 2))), (1, 2))

    def test_wrong_costs(self):
        other = Table(3, 2, [[(1, 0)], [(0, 1)], [(1, 1)]])
        short = Prices([[1]] * 3, [1] * 3, [1] * 3)
        wrong = ODD + [0, [], [[5], [2], [2], [3]], TABLE, ONE, short, Net(short, [0] * 3, [], 0)]
        for cost in wrong:
            self.assertIs(raised(InvalidCost, least, TABLE, cost, None, None).value, cost)
            self.assertIs(raised(InvalidCost, extras, TABLE, cost, None, None).value, cost)
            self.assertIs(raised(InvalidCost, lambda: list(cheaper(TABLE, cost, None, None))).value, cost)
        for cost in [PRICES, NET]:
            self.assertIs(raised(InvalidCost, least, other, cost, None, None).value, cost)

    def test_wrong_gone_spots(self):
        wrong = [[(1, 0), (0, 0)], [(0, 0), (0, 0)], [(0, 1)], [(4, 0)], [[0, 0]], [(0, 0), None], (0, 0), [(False, 0)]]
        for gone in NO_LISTS + wrong + [[0], TABLE]:
            self.assertIs(raised(InvalidSpots, least, TABLE, PRICES, gone, None).value, gone)
            self.assertIs(raised(InvalidSpots, extras, TABLE, PRICES, gone, None).value, gone)
            self.assertIs(raised(InvalidSpots, lambda: list(cheaper(TABLE, PRICES, gone, None))).value, gone)

    def test_wrong_wishes_ahead_of_lost(self):
        everything = list(TABLE)
        wrong = [[], (), [ONE] * 11, [ONE, None], [ONE, Sum(3, (1,))], [Sum(2, (1, 0))], [(1, 0)], [[ONE]], ONE]
        for wishes in NO_LISTS + wrong:
            for cost in [PRICES, NET]:
                self.assertIs(raised(InvalidWishes, least, TABLE, cost, everything, wishes).value, wishes)
        for wishes in [[ONE, ONE], (ONE, Sum(3, (0, 0))), [ONE] * 10]:
            self.assertIs(raised(InvalidWishes, least, TABLE, NET, everything, wishes).value, wishes)
            self.assertEqual(raised(Lost, least, TABLE, PRICES, everything, wishes).blind, (1, 0))


class ReadsTest(unittest.TestCase):
    def test_values_of_the_wishes_for_all_data(self):
        for table, cost, gone, wishes in cases(8, 120, random_prices):
            try:
                reads = least(table, cost, gone, wishes)
            except Lost:
                continue
            for data in data_of(table.prime, table.size):
                self.assertEqual(reads(table(data)), tuple(item(data) for item in wishes))
                there = table(data).without([p for p in range(len(table)) if p not in [s[0] for s in reads.spots]])
                self.assertEqual(reads(stored=there), tuple(item(data) for item in wishes))

    def test_what_is_stored_is_taken_as_it_is(self):
        reads = least(TABLE, PRICES, [], [ONE, Sum(3, (0, 2))])
        self.assertEqual(reads(Stored([(0,), (2,), (2,), (0,)])), (0, 1))

    def test_wrong_stored(self):
        reads = least(TABLE, PRICES, [], [ONE])
        good = TABLE((2, 1))
        wrong = [Stored([(0,)] * 3), Stored([(0, 0), (0,), (0,), (0,)]), good.bent(0, (3,)), good.bent(3, (6,))]
        for stored in ODD + [0, [], good.pieces, list(good.pieces), TABLE, reads] + wrong:
            self.assertIs(raised(InvalidStored, reads, stored).value, stored)
        self.assertIs(raised(InvalidStored, reads, good.without([1]).bent(0, (3,))).value.__class__, Stored)

    def test_spots_that_are_gone(self):
        reads = least(TABLE, PRICES, [], [ONE])
        good = TABLE((2, 1))
        self.assertEqual(raised(InvalidSpots, reads, good.without([1])).value, ((1, 0),))
        self.assertEqual(raised(InvalidSpots, reads, good.without([0, 1, 2, 3])).value, ((1, 0), (2, 0)))
        self.assertEqual(reads(good.without([0, 3])), (2,))
        pair = Table(2, 2, [[(1, 0), (0, 1)], [(1, 1)]])
        reads = least(pair, Prices([[1, 1], [9]], [3, 9], [0, 0]), [], units_of(pair))
        self.assertEqual(raised(InvalidSpots, reads, Stored([None, (0,)])).value, ((0, 0), (0, 1)))

    def test_equality_compares_the_papers(self):
        reads = least(TABLE, PRICES, [], [ONE])
        self.assertTrue(reads == least(TABLE, PRICES, [], [ONE]))
        self.assertFalse(reads != least(TABLE, PRICES, [], [ONE]))
        dearer = Prices([[5], [2], [3], [3]], [9] * 4, [0] * 4)
        others = [least(TABLE, PRICES, [(1, 0)], [ONE]), least(TABLE, PRICES, [], [ONE, ONE])]
        others += [least(TABLE, dearer, [], [ONE]), reads.paper()]
        for other in others + ODD:
            self.assertFalse(reads == other)
            self.assertTrue(reads != other)
        self.assertFalse(reads.__eq__(EqualToAll()))

    def test_properties_do_not_change(self):
        reads = least(TABLE, PRICES, [], [ONE])
        for name in ["spots", "cost", "combinations", "blinds"]:
            self.assertRaises(AttributeError, setattr, reads, name, ())


class ExtrasTest(unittest.TestCase):
    def test_against_all_sets(self):
        for table, cost, gone, _ in list(cases(9, 24, random_prices)) + list(cases(10, 12, random_net)):
            prices = cost if isinstance(cost, Prices) else cost.prices
            for spots in subsets(list(table)):
                paid = cost_of(prices.parts, prices.wholes, prices.opens, spots)[1]
                span = span_of(table.prime, table.size, rows_at(table, [spot for spot in paid if spot not in gone]))
                told = extras(table, cost, gone, spots)
                self.assertEqual(told, extras(table=table, cost=cost, gone=tuple(gone), spots=list(spots)))
                for row in data_of(table.prime, table.size):
                    self.assertEqual(Sum(table.prime, row) in told, row in span)

    def test_spots_that_are_gone_pay_the_others_of_their_piece(self):
        table = Table(2, 2, [[(1, 0), (0, 1)]])
        for whole, many in [(1, 1), (2, 1), (3, 0)]:
            self.assertEqual(len(extras(table, Prices([[2, 2]], [whole], [0]), [(0, 0)], [(0, 0)])), many)
        self.assertEqual(len(extras(table, Prices([[2, 2]], [2], [0]), [], [])), 0)

    def test_wrong_spots(self):
        wrong = [[(1, 0), (0, 0)], [(0, 0), (0, 0)], [(0, 1)], [(4, 0)], [[0, 0]], [(0, 0), None], (0, 0), [(False, 0)]]
        for spots in NO_LISTS + wrong:
            self.assertIs(raised(InvalidSpots, extras, TABLE, PRICES, [(0, 0)], spots).value, spots)
            self.assertIs(raised(InvalidSpots, extras, TABLE, NET, [], spots).value, spots)


class CheaperTest(unittest.TestCase):
    def test_against_all_sets(self):
        for make_cost in [random_prices, random_net]:
            for table, cost, gone, _ in cases(11, 36, make_cost):
                rows = all_choices(table, cost, gone)
                for bound in [-1, 0, 1, 3, rows[-1][0], rows[-1][0] + 1, 10**29]:
                    told = list(cheaper(table, cost, gone, bound))
                    self.assertEqual(told, [spots for price, _, spots in rows if price < bound])
                    self.assertEqual(told, list(cheaper(table=table, cost=cost, gone=tuple(gone), bound=bound)))

    def test_it_is_a_generator(self):
        self.assertTrue(inspect.isgenerator(cheaper(TABLE, PRICES, [], 1)))
        self.assertEqual(list(cheaper(TABLE, PRICES, [], 3)), [(), ((1, 0),), ((2, 0),)])
        self.assertEqual(list(cheaper(TABLE, PRICES, [], 0)), [])

    def test_spots_without_a_tree_are_no_reads(self):
        net = Net(PRICES, [0, 1, 1, 4], [(0, 1, 7)], 0)
        told = list(cheaper(TABLE, net, [], 10**4))
        self.assertEqual(len(told), 8)
        self.assertFalse(any((3, 0) in spots for spots in told))

    def test_wrong_bounds(self):
        for bound in NO_INTEGERS:
            self.assertIs(raised(InvalidNumber, lambda: list(cheaper(TABLE, PRICES, [], bound))).value, bound)
        self.assertEqual(list(cheaper(TABLE, PRICES, list(TABLE), 1)), [()])

    def test_more_spots_never_cost_less(self):
        for make_cost in [random_prices, random_net]:
            for table, cost, gone, _ in cases(12, 12, make_cost):
                costs = {spots: price for price, _, spots in all_choices(table, cost, gone)}
                for less in costs:
                    for more in costs:
                        if set(less) <= set(more):
                            self.assertLessEqual(cost(less), cost(more))


if __name__ == "__main__":
    unittest.main()
