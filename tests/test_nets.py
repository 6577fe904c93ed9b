import time
import unittest
from random import Random

from leastreads.costs import Prices
from leastreads.errors import InvalidCost, InvalidSpots, InvalidStored, Lost
from leastreads.nets import Net, sent
from leastreads.reads import least
from leastreads.stored import Stored
from leastreads.sums import Sum
from leastreads.tables import Table
from net_support import is_zero_at, leads_to, random_net, random_prices, tree_of
from support import (
    NO_INTEGERS, NO_LISTS, ODD, EqualToAll, data_of, priced, raised, random_sums, random_table, subsets,
)  # fmt: skip

TABLE = Table(3, 2, [[(1, 0)], [(0, 1)], [(1, 1)]])
PRICES = Prices([[1], [1], [1]], [1, 1, 1], [0, 0, 0])
NET = Net(PRICES, [0, 1, 2], [(0, 1, 5), (0, 2, 9), (1, 2, 2)], 0)
ONE = Sum(3, (1, 0))
ALL_PAIRS = [(one, other) for one in range(5) for other in range(one + 1, 5)]


class NetTest(unittest.TestCase):
    def test_example(self):
        reads = least(TABLE, NET, [(0, 0)], [ONE])
        told = [reads.cost, NET.tree(reads.spots), sent(NET, TABLE, reads.combinations[0], TABLE((2, 1)))]
        self.assertEqual(told, [9, (7, (0, 2)), [(2, 1, 0), (1, 0, 2)]])

    def test_properties(self):
        net = Net(PRICES, [4, 0, 4], [(1, 2, 2), (0, 4, 1000), (0, 1, 0)], 4)
        self.assertIs(net.prices, PRICES)
        self.assertEqual((net.racks, net.links, net.home), ((4, 0, 4), ((0, 1, 0), (0, 4, 1000), (1, 2, 2)), 4))
        for name in ["prices", "racks", "links", "home"]:
            self.assertRaises(AttributeError, setattr, net, name, ())

    def test_lists_and_tuples_alike_and_no_reference_kept(self):
        racks, links = [0, 1, 2], [(1, 2, 2), (0, 1, 5), (0, 2, 9)]
        net = Net(prices=PRICES, racks=racks, links=links, home=0)
        self.assertEqual(net, Net(PRICES, tuple(racks), tuple(links), 0))
        racks[0] = 3
        links.clear()
        self.assertEqual(net, NET)
        self.assertEqual(net.tree([(1, 0), (2, 0)]), (7, (0, 2)))

    def test_costs_and_trees_against_all_sets_of_links(self):
        random = Random(21)
        for number in range(60):
            table = random_table(random, 2, 2, [1] * (1 + number % 6))
            net = random_net(random, table, number % 5)
            for spots in subsets(list(table)):
                tree = tree_of(net, spots)
                self.assertEqual(net.tree(spots), tree)
                self.assertEqual(net.tree(spots=list(spots)), tree)
                self.assertEqual(net(spots), None if tree is None else tree[0] + priced(net.prices, spots))
                self.assertEqual(net(spots=list(spots)), net(spots))

    def test_ten_links_against_all_sets_of_links(self):
        random = Random(22)
        table = Table(2, 1, [[(1,)]] * 5)
        for most in [0, 1, 2, 9]:
            links = [(*pair, random.randint(0, most)) for pair in ALL_PAIRS]
            net = Net(Prices([[1]] * 5, [1] * 5, [0] * 5), [0, 1, 2, 3, 4], links[::-1], random.randint(0, 4))
            for spots in subsets(list(table))[::3]:
                self.assertEqual(net.tree(spots), tree_of(net, spots))

    def test_paid_spots_are_those_of_the_prices(self):
        random = Random(23)
        for _ in range(20):
            table = random_table(random, 2, 2, [2, 3, 1])
            net = random_net(random, table)
            for spots in subsets(list(table)):
                self.assertEqual(net.paid(spots), net.prices.paid(spots))
                self.assertEqual(net.paid(spots=list(spots)), net.prices.paid(spots))

    def test_fits(self):
        self.assertIs(NET.fits(TABLE), True)
        self.assertIs(NET.fits(table=Table(7, 1, [[(0,)]] * 3)), True)
        wrong = [Table(3, 2, [[(1, 0)]] * 2), Table(3, 2, [[(1, 0)], [(1, 0)] * 2, [(1, 0)]]), PRICES, NET]
        for other in wrong + ODD + [0, []]:
            self.assertIs(NET.fits(other), False)

    def test_all_pieces_at_home_without_links(self):
        net = Net(PRICES, [3, 3, 3], [], 3)
        for spots in subsets(list(TABLE)):
            self.assertEqual((net(spots), net.tree(spots)), (PRICES(spots), (0, ())))
        reads = least(TABLE, net, [(0, 0)], [ONE])
        self.assertEqual(reads, least(TABLE, PRICES, [(0, 0)], [ONE]))
        self.assertEqual(sent(net, TABLE, reads.combinations[0], TABLE((1, 2))), [])

    def test_racks_that_cannot_be_reached(self):
        net = Net(PRICES, [0, 1, 2], [(1, 2, 0)], 0)
        self.assertEqual([net([]), net.tree([])], [0, (0, ())])
        self.assertEqual([net([(0, 0)]), net.tree([(0, 0)])], [1, (0, ())])
        for spots in [[(1, 0)], [(1, 0), (2, 0)], list(TABLE)]:
            self.assertIsNone(net(spots))
            self.assertIsNone(net.tree(spots))
            self.assertEqual(net.paid(spots), tuple(spots))
        self.assertEqual(least(TABLE, net, [], [ONE]).spots, ((0, 0),))
        self.assertEqual(raised(Lost, least, TABLE, net, [(0, 0)], [ONE]).blind, (1, 0))
        self.assertEqual(raised(Lost, least, TABLE, net, [], [Sum(3, (1, 1))]).blind, (0, 1))

    def test_links_of_price_0_count_by_their_number(self):
        net = Net(PRICES, [1, 2, 2], [(0, 1, 0), (0, 2, 0), (1, 2, 0), (2, 3, 0), (1, 3, 0)], 0)
        # Ascending the links are (0, 1), (0, 2), (1, 2), (1, 3), (2, 3).
        told = [net.tree([(0, 0)]), net.tree([(1, 0)]), net.tree(list(TABLE))]
        self.assertEqual(told, [(0, (0,)), (0, (1,)), (0, (0, 1))])
        dear = Net(PRICES, [1, 2, 2], [(0, 1, 0), (0, 2, 3), (1, 2, 0), (2, 3, 0), (1, 3, 0)], 0)
        self.assertEqual(dear.tree([(1, 0)]), (0, (0, 2)))

    def test_racks_without_pieces_may_carry(self):
        net = Net(Prices([[1], [1]], [1, 1], [0, 0]), [1, 2], [(0, 1, 9), (0, 2, 9), (0, 3, 1), (1, 3, 1), (2, 3, 1)], 0)
        self.assertEqual(net.tree([(0, 0), (1, 0)]), (3, (2, 3, 4)))
        table = Table(5, 1, [[(1,)], [(2,)]])
        told = sent(net, table, (((0, 0), 3), ((1, 0), 4)), Stored([(2,), (4,)]))
        self.assertEqual(told, [(1, 3, 1), (2, 3, 1), (3, 0, 2)])

    def test_a_tree_can_be_cheaper_than_what_reads_it_saves(self):
        # The nearer piece is dearer to read, the farther one dearer to send.
        table = Table(2, 1, [[(1,)], [(1,)]])
        for price, spot in [(1, (1, 0)), (2, (0, 0)), (3, (0, 0))]:
            net = Net(Prices([[5], [3]], [9, 9], [0, 0]), [0, 1], [(0, 1, price)], 0)
            self.assertEqual(least(table, net, [], [Sum(2, (1,))]).spots, (spot,))

    def test_more_spots_never_cost_less_and_never_come_to_have_a_tree(self):
        random = Random(24)
        for _ in range(20):
            table = random_table(random, 2, 2, [2, 1, 2])
            net = random_net(random, table)
            for less in subsets(list(table)):
                for more in subsets(list(table)):
                    if set(less) <= set(more) and net(more) is not None:
                        self.assertLessEqual(net(less), net(more))

    def test_wrong_spots(self):
        wrong = [[(1, 0), (0, 0)], [(0, 0), (0, 0)], [(0, 1)], [(3, 0)], [[0, 0]], [(0, 0), None], (0, 0), [(False, 0)]]
        for spots in NO_LISTS + wrong:
            for call in [NET, NET.tree, NET.paid]:
                self.assertIs(raised(InvalidSpots, call, spots).value, spots)

    def test_equality(self):
        same = Net(Prices([[1]] * 3, [1] * 3, [0] * 3), (0, 1, 2), ((1, 2, 2), (0, 2, 9), (0, 1, 5)), 0)
        self.assertTrue(NET == same)
        self.assertFalse(NET != same)
        links = [(0, 1, 5), (0, 2, 9), (1, 2, 2)]
        others = [
            Net(Prices([[2], [1], [1]], [1, 1, 1], [0, 0, 0]), [0, 1, 2], links, 0),
            Net(PRICES, [0, 1, 1], links, 0),
            Net(PRICES, [0, 1, 2], links[:2], 0),
            Net(PRICES, [0, 1, 2], [(0, 1, 5), (0, 2, 9), (1, 2, 3)], 0),
            Net(PRICES, [0, 1, 2], links, 1),
            PRICES,
        ]
        for other in others + ODD:
            self.assertFalse(NET == other)
            self.assertTrue(NET != other)
            self.assertFalse(other == NET and not isinstance(other, EqualToAll))
        self.assertFalse(NET.__eq__(EqualToAll()))


class WrongNetTest(unittest.TestCase):
    def test_the_first_wrong_one_of_the_four_is_kept(self):
        for prices in ODD + [0, [], ([[1]], [1], [0]), TABLE, NET]:
            self.assertIs(raised(InvalidCost, Net, prices, None, None, None).value, prices)
        racks = [[], [0], [0, 0], [0] * 4, [0, 0, 5], [-1, 0, 0], [0, True, 0], [0, None, 0], [0, 0, "0"]]
        for wrong in NO_LISTS + racks:
            self.assertIs(raised(InvalidCost, Net, PRICES, wrong, None, None).value, wrong)
        items = NO_INTEGERS + [0, (0, 1), (0, 1, 2, 3), [0, 1, 5], (1, 0, 5), (1, 1, 5), (0, 5, 5), (-1, 0, 5), (0, 1, -1)]
        items += [(0, 1, 1001), (0, 1, None), (False, 1, 5), (0, True, 5), (0, 1, True), ("0", "1", 5), (0, 1, "5")]
        lists = [[item] for item in items] + [[(0, 1, 5), item] for item in items]
        lists += [[(0, 1, 5), (0, 1, 5)], [(0, 1, 5), (1, 2, 3), (0, 1, 6)]]
        lists += [[(*pair, 1) for pair in ALL_PAIRS] + [(0, 1, 1)], [()], [[]]]
        for links in NO_LISTS + lists:
            self.assertIs(raised(InvalidCost, Net, PRICES, [0, 1, 2], links, None).value, links)
        for home in NO_INTEGERS + [-1, 5, 10**25]:
            self.assertIs(raised(InvalidCost, Net, PRICES, [0, 1, 2], [], home).value, home)

    def test_the_widest_limits(self):
        links = [(*pair, 1000) for pair in ALL_PAIRS]
        prices = Prices([[0]] * 6, [0] * 6, [0] * 6)
        begun = time.monotonic()
        net = Net(prices, [0, 1, 2, 3, 4, 4], links, 4)
        self.assertEqual(net([(piece, 0) for piece in range(6)]), 4000)
        self.assertEqual(net([(4, 0), (5, 0)]), 0)
        self.assertLess(time.monotonic() - begun, 5)
        self.assertEqual(Net(Prices([[0]], [0], [0]), [4], [], 0)([(0, 0)]), None)


class SentTest(unittest.TestCase):
    def carried(self, net, table, combination, stored):
        """Check that each rack sends once, towards home, behind all that it receives; return what home then knows."""
        known = {rack: 0 for rack in range(5)}
        for spot, factor in combination:
            known[net.racks[spot[0]]] += factor * stored[spot]
        done = []
        for one, other, value in sent(net, table, combination, stored):
            self.assertNotIn(one, done)
            self.assertNotIn(other, done)
            self.assertEqual(value, known[one] % table.prime)
            known[other] += value
            done.append(one)
        self.assertNotIn(net.home, done)
        return known[net.home] % table.prime

    def test_home_comes_to_know_the_wish(self):
        random = Random(25)
        many = 0
        for number in range(80):
            prime = [2, 3, 5][number % 3]
            table = random_table(random, prime, 2, [2, 1, 1, 1])
            net = random_net(random, table)
            wish = random_sums(random, table, 1)
            try:
                reads = least(table, net, [], wish)
            except Lost:
                continue
            many += 1
            for data in data_of(prime, 2):
                stored = table(data).without([p for p in range(4) if p not in [s[0] for s in reads.spots]])
                self.assertEqual(self.carried(net, table, reads.combinations[0], stored), wish[0](data))
            price, indexes = net.tree([spot for spot, _ in reads.combinations[0]])
            told = sent(net, table, reads.combinations[0], table((1, 1)))
            links = sorted(tuple(sorted(row[:2])) for row in told)
            self.assertEqual(links, [net.links[index][:2] for index in indexes])
            self.assertEqual(price, sum(net.links[index][2] for index in indexes))
        self.assertGreater(many, 40)

    def test_the_order_is_by_links_to_home_then_by_rack(self):
        prices = Prices([[1]] * 5, [1] * 5, [0] * 5)
        table = Table(7, 1, [[(1,)]] * 5)
        net = Net(prices, [0, 1, 2, 3, 4], [(2, 4, 1), (0, 2, 1), (1, 4, 1), (3, 4, 1)], 4)
        combination = tuple(((piece, 0), 1) for piece in range(5))
        told = sent(net, table, combination, Stored([(1,), (2,), (3,), (4,), (5,)]))
        self.assertEqual(told, [(0, 2, 1), (1, 4, 2), (2, 4, 4), (3, 4, 4)])
        stored = Stored([(6,)] + [None] * 4)
        self.assertEqual(sent(net=net, table=table, combination=combination[:1], stored=stored), [(0, 2, 6), (2, 4, 6)])
        self.assertEqual(sent(net, table, (), Stored([None] * 5)), [])

    def test_values_are_modulo_the_prime_and_as_stored(self):
        told = sent(NET, TABLE, (((1, 0), 2), ((2, 0), 2)), Stored([None, (2,), (2,)]))
        self.assertEqual(told, [(2, 1, 1), (1, 0, 2)])

    def test_a_net_that_does_not_fit(self):
        other = Table(3, 2, [[(1, 0)]] * 4)
        for net in ODD + [0, PRICES, TABLE]:
            self.assertIs(raised(InvalidCost, sent, net, TABLE, None, None).value, net)
        self.assertIs(raised(InvalidCost, sent, NET, other, None, None).value, NET)

    def test_wrong_combinations(self):
        wrong = [[((1, 0), 1)], (((1, 0), 0),), (((1, 0), 3),), (((1, 0), True),), (((1, 1), 1),), (([1, 0], 1),)]
        wrong += [(((2, 0), 1), ((1, 0), 1)), (((1, 0), 1), ((1, 0), 1)), ((1, 0),), (((1, 0), 1, 0),), ([(1, 0), 1],)]
        for combination in ODD + [0, []] + wrong:
            self.assertIs(raised(InvalidSpots, sent, NET, TABLE, combination, None).value, combination)
        apart = Net(PRICES, [0, 1, 2], [(0, 1, 1)], 0)
        combination = (((0, 0), 1), ((2, 0), 1))
        self.assertIs(raised(InvalidSpots, sent, apart, TABLE, combination, None).value, combination)

    def test_wrong_stored(self):
        combination = (((1, 0), 2), ((2, 0), 1))
        good = TABLE((2, 1))
        wrong = [good.without([1]), good.without([0, 2]), good.bent(0, (3,)), Stored([(0,)] * 2), good.bent(1, (0, 0))]
        for stored in ODD + [0, [], good.pieces, TABLE] + wrong:
            self.assertIs(raised(InvalidStored, sent, NET, TABLE, combination, stored).value, stored)
        self.assertEqual(len(sent(NET, TABLE, combination, good.without([0]))), 2)

    def test_returned_lists_are_new(self):
        combination = (((1, 0), 2), ((2, 0), 1))
        told = sent(NET, TABLE, combination, TABLE((2, 1)))
        told.clear()
        self.assertEqual(len(sent(NET, TABLE, combination, TABLE((2, 1)))), 2)


class EnoughAndNotLessTest(unittest.TestCase):
    def test_no_set_of_spots_and_links_that_costs_less_tells_the_wish(self):
        random = Random(26)
        for number in range(30):
            table = random_table(random, [2, 3][number % 2], 2, [1, 2, 1])
            net = random_net(random, table, 3)
            wish = random_sums(random, table, 1)
            try:
                cost = least(table, net, [], wish).cost
            except Lost:
                cost = None
            for links in subsets(net.links):
                racks = leads_to(links, net.home)
                known = [spot for spot in table if net.racks[spot[0]] in racks]
                for spots in subsets(known):
                    price = priced(net.prices, spots) + sum(link[2] for link in links)
                    if cost is None or price < cost:
                        zeros = [d for d in data_of(table.prime, 2) if is_zero_at(table, spots, d)]
                        self.assertTrue(any(wish[0](data) for data in zeros))


if __name__ == "__main__":
    unittest.main()
