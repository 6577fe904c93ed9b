import unittest
from itertools import product

from leastreads.costs import Prices
from leastreads.errors import InvalidCost, InvalidSpots
from leastreads.tables import Table
from support import NO_INTEGERS, NO_LISTS, ODD, EqualToAll, cost_of, raised, subsets


CASES = [
    ([[0]], [0], [0]),
    ([[1000]], [1000], [1000]),
    ([[3], [0, 4], [2, 2, 5]], [3, 5, 4], [1, 0, 7]),
    ([[1, 2, 3], [1, 2, 3], [1, 2, 3]], [5, 6, 7], [0, 0, 1000]),
    ([[1], [2], [0], [1000], [5], [5]], [0, 2, 0, 999, 4, 6], [0, 1, 2, 3, 4, 5]),
]


class PricesTest(unittest.TestCase):
    def setUp(self):
        self.prices = Prices([[3], [0, 4]], [3, 5], [1, 0])

    def test_properties(self):
        for parts, wholes, opens in CASES:
            prices = Prices(parts, wholes, opens)
            told = (prices.parts, prices.wholes, prices.opens)
            self.assertEqual(told, (tuple(tuple(row) for row in parts), tuple(wholes), tuple(opens)))
        for name in ["parts", "wholes", "opens"]:
            self.assertRaises(AttributeError, setattr, prices, name, ())

    def test_lists_and_tuples_alike_and_no_reference_kept(self):
        parts, wholes, opens = [[3], [0, 4]], [3, 5], [1, 0]
        prices = Prices(opens=opens, wholes=wholes, parts=parts)
        self.assertEqual(prices, Prices(((3,), (0, 4)), (3, 5), (1, 0)))
        parts[0][0] = wholes[0] = opens[0] = 9
        self.assertEqual(prices, self.prices)

    def test_costs_and_paid_spots(self):
        for parts, wholes, opens in CASES:
            prices = Prices(parts, wholes, opens)
            spots = [(piece, part) for piece, row in enumerate(parts) for part in range(len(row))]
            for chosen in subsets(spots):
                cost, paid = cost_of(parts, wholes, opens, chosen)
                self.assertEqual(prices(chosen), cost)
                self.assertEqual(prices(spots=list(chosen)), cost)
                self.assertEqual(prices.paid(chosen), paid)
                self.assertEqual(prices.paid(spots=list(chosen)), paid)

    def test_whole_price_at_below_and_above_the_sum(self):
        spots = [(0, 0), (0, 2)]
        for whole, cost, paid in [(5, 15, [0, 1, 2]), (4, 14, [0, 1, 2]), (6, 15, [0, 2])]:
            prices = Prices([[2, 9, 3]], [whole], [10])
            self.assertEqual(prices(spots), cost)
            self.assertEqual(prices.paid(spots), tuple((0, part) for part in paid))

    def test_without_spots(self):
        for parts, wholes, opens in CASES:
            self.assertEqual(Prices(parts, wholes, opens)([]), 0)
            self.assertEqual(Prices(parts, wholes, opens).paid(()), ())

    def test_prices_0_and_1000(self):
        free = Prices([[0, 0, 0]], [0], [0])
        self.assertEqual((free([(0, 1)]), free.paid([(0, 1)])), (0, ((0, 0), (0, 1), (0, 2))))
        dear = Prices([[1000, 1000, 1000]], [1000], [1000])
        self.assertEqual((dear([(0, 1)]), dear.paid([(0, 1)])), (2000, ((0, 0), (0, 1), (0, 2))))

    def test_more_spots_never_cost_less(self):
        for parts, wholes, opens in CASES:
            prices = Prices(parts, wholes, opens)
            spots = [(piece, part) for piece, row in enumerate(parts) for part in range(len(row))]
            for less, more in product(subsets(spots), repeat=2):
                if set(less) <= set(more):
                    self.assertLessEqual(prices(less), prices(more))

    def test_wrong_spots(self):
        wrong = [[(1, 0), (0, 0)], [(0, 0), (0, 0)], [(0, 1)], [(2, 0)], [(-1, 0)], [[0, 0]], [(0, 0), None]]
        for spots in NO_LISTS + wrong + [(0, 0), [(False, 0)], [(1, True)], ["00"], [(0, 0, 0)]]:
            self.assertIs(raised(InvalidSpots, self.prices, spots).value, spots)
            self.assertIs(raised(InvalidSpots, self.prices.paid, spots).value, spots)

    def test_fits(self):
        part = (1, 0)
        self.assertIs(self.prices.fits(Table(3, 2, [[part], [part, part]])), True)
        self.assertIs(self.prices.fits(table=Table(7, 4, [[(0,) * 4], [(0,) * 4] * 2])), True)
        for pieces in [[[part]], [[part], [part]], [[part, part], [part]], [[part], [part, part], [part]]]:
            self.assertIs(self.prices.fits(Table(3, 2, pieces)), False)
        for other in ODD + [0, [[0], [0, 0]], self.prices, Table(3, 2, [[part], [part, part]])((0, 0))]:
            self.assertIs(self.prices.fits(other), False)

    def test_equality(self):
        self.assertTrue(self.prices == Prices(((3,), (0, 4)), (3, 5), (1, 0)))
        self.assertFalse(self.prices != Prices(((3,), (0, 4)), (3, 5), (1, 0)))
        others = [
            Prices([[3], [0, 5]], [3, 5], [1, 0]),
            Prices([[3], [0, 4]], [3, 6], [1, 0]),
            Prices([[3], [0, 4]], [3, 5], [1, 1]),
            Prices([[3]], [3], [1]),
            (((3,), (0, 4)), (3, 5), (1, 0)),
        ]
        for other in others + ODD:
            self.assertFalse(self.prices == other)
            self.assertTrue(self.prices != other)
        self.assertFalse(self.prices.__eq__(EqualToAll()))

    def test_one_to_six_pieces_of_one_to_three_parts(self):
        for many in range(1, 7):
            for count in range(1, 4):
                prices = Prices([[1] * count] * many, [5] * many, [0] * many)
                self.assertEqual(prices([(many - 1, count - 1)]), 1)

    def test_the_first_wrong_one_of_the_three_is_kept(self):
        bad_prices = NO_LISTS + [[item] for item in NO_INTEGERS] + [[-1], [1001], (10**25,)]
        for parts in NO_LISTS + [[], (), [[1]] * 7, [[]], [[1] * 4], [1, [1]], self.prices] + [[row] for row in bad_prices]:
            self.assertIs(raised(InvalidCost, Prices, parts, None, None).value, parts)
        for row in bad_prices + [[], (), [1, 1]]:
            self.assertIs(raised(InvalidCost, Prices, [[1]], row, "opens").value, row)
            self.assertIs(raised(InvalidCost, Prices, [[1]], [1], row).value, row)
        short = [1, 1]
        self.assertIs(raised(InvalidCost, Prices, [[1]] * 3, short, [1] * 3).value, short)
        self.assertIs(raised(InvalidCost, Prices, [[1]] * 3, [1] * 3, short).value, short)


if __name__ == "__main__":
    unittest.main()
