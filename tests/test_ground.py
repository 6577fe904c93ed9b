import unittest
from itertools import product

from leastreads.errors import InvalidSpots, InvalidSum, InvalidWishes
from leastreads.ground import fatal, have, is_have
from leastreads.sums import Sum
from leastreads.tables import Table
from support import (
    NO_LISTS, ODD, EqualToAll, data_of, raised, rows_at, span_of, subsets, sum_of, value_of, zeros_of,
)  # fmt: skip

EXAMPLE = Table(3, 2, [[(1, 0)], [(0, 1)], [(1, 1)]])
TABLES = [
    EXAMPLE,
    Table(2, 1, [[(1,)]]),
    Table(2, 1, [[(0,)], [(1,)], [(1,), (1,)], [(0,)], [(1,)], [(1,)]]),
    Table(2, 2, [[(1, 0), (0, 1)], [(1, 1), (1, 1)], [(0, 0)]]),
    Table(2, 3, [[(1, 0, 1), (0, 1, 1)], [(1, 1, 0)], [(0, 0, 1), (1, 1, 1)]]),
    Table(2, 3, [[(1, 1, 0)], [(0, 1, 1)], [(1, 0, 1)]]),
    Table(3, 2, [[(1, 0)], [(0, 1)], [(1, 1)], [(1, 2)]]),
    Table(3, 2, [[(1, 2), (2, 1), (0, 0)], [(1, 1)]]),
    Table(5, 2, [[(3, 1)], [(1, 2), (4, 4)]]),
    Table(7, 1, [[(0,)], [(3,), (5,)]]),
]


class HaveTest(unittest.TestCase):
    def test_example(self):
        item = Sum(3, (1, 0))
        self.assertEqual(have(EXAMPLE, [(1, 0), (2, 0)], item), ("combination", (((1, 0), 2), ((2, 0), 1))))
        self.assertEqual(have(EXAMPLE, [(1, 0)], item), ("blind", (1, 0)))
        self.assertEqual(fatal(EXAMPLE, [item]), [((0, 1), (1, 2)), ((0, 2), (1, 0))])

    def test_exactly_one_of_a_combination_and_blind_data_exists(self):
        for table in TABLES:
            prime, size = table.prime, table.size
            for spots in subsets(list(table)):
                span = span_of(prime, size, rows_at(table, spots))
                zeros = zeros_of(prime, size, rows_at(table, spots))
                for factors in data_of(prime, size):
                    word, told = have(table, spots, Sum(prime, factors))
                    blind = [data for data in zeros if value_of(prime, factors, data)]
                    self.assertEqual(word, "combination" if factors in span else "blind")
                    self.assertEqual(bool(blind), factors not in span)
                    if word == "blind":
                        self.assertEqual(told, blind[0])
                        continue
                    self.assertEqual(sum_of(table, told), factors)
                    self.assertIsInstance(told, tuple)
                    used = [spot for spot, _ in told]
                    self.assertEqual(used, sorted(set(used)))
                    self.assertTrue(set(used) <= set(spots))
                    self.assertTrue(all(0 < factor < prime for _, factor in told))

    def test_what_is_told_is_right(self):
        for table in TABLES:
            for spots in subsets(list(table)):
                for factors in data_of(table.prime, table.size):
                    item = Sum(table.prime, factors)
                    self.assertIs(is_have(table, spots, item, have(table, spots, item)), True)
                    self.assertEqual(have(table, tuple(spots), item), have(table, spots, item))

    def test_just_the_right_combinations_and_blind_data_are_accepted(self):
        for table in TABLES[:2] + TABLES[3:4] + TABLES[7:]:
            prime, size = table.prime, table.size
            spots = list(table)[1:]
            zeros = zeros_of(prime, size, rows_at(table, spots))
            all_combinations = [
                tuple((spot, factor) for spot, factor in zip(table, factors) if factor)
                for factors in product(range(prime), repeat=len(list(table)))
            ]
            for factors in data_of(prime, size):
                item = Sum(prime, factors)
                for told in all_combinations:
                    right = sum_of(table, told) == factors and all(spot in spots for spot, _ in told)
                    self.assertIs(is_have(table, spots, item, ("combination", told)), right)
                for told in data_of(prime, size):
                    right = told in zeros and value_of(prime, factors, told) != 0
                    self.assertIs(is_have(table, spots, item, ("blind", told)), right)

    def test_without_spots(self):
        self.assertEqual(have(table=EXAMPLE, spots=[], item=Sum(3, (0, 0))), ("combination", ()))
        self.assertEqual(have(EXAMPLE, (), Sum(3, (0, 2))), ("blind", (0, 1)))
        self.assertIs(is_have(table=EXAMPLE, spots=[], item=Sum(3, (0, 0)), value=("combination", ())), True)

    def test_what_is_no_such_tuple(self):
        spots, item = [(1, 0), (2, 0)], Sum(3, (1, 0))
        right = (((1, 0), 2), ((2, 0), 1))
        self.assertTrue(is_have(EXAMPLE, spots, item, ("combination", right)))
        wrong = [list(right), right[::-1], (list(right[0]), right[1]), right + right[1:], (([1, 0], 2), right[1])]
        wrong += [(((1, 0), 2), ((2, 0), True)), (((1, False), 2), ((2, 0), 1)), (((1, 0), 5), ((2, 0), 1))]
        wrong += [(((1, 0), 2, 0), ((2, 0), 1)), (((1, 0), -1), ((2, 0), 1)), (((1, 0), 1), ((1, 0), 1), right[1])]
        wrong += [(((0, 0), 1),), (((1, 0), 2), ((2, 0), 1.0)), (((1, 0), 2), ((3, 0), 1)), (((1, 0),), right[1])]
        for told in wrong + ODD + [0, (), [], "combination", {(1, 0): 2, (2, 0): 1}]:
            self.assertIs(is_have(EXAMPLE, spots, item, ("combination", told)), False)
        values = [("combination", right, 0), ["combination", right], (right, "combination"), ("combination",), ()]
        values += [("blind", right), ("other", right), (b"combination", right), (EqualToAll(), right), right, [], 0]
        for value in values + ODD:
            self.assertIs(is_have(EXAMPLE, spots, item, value), False)

    def test_a_factor_0_is_none_of_a_combination(self):
        spots, item = [(0, 0), (1, 0)], Sum(3, (1, 0))
        self.assertIs(is_have(EXAMPLE, spots, item, ("combination", (((0, 0), 1),))), True)
        for factor in [0, 3, -3, 6]:
            self.assertIs(is_have(EXAMPLE, spots, item, ("combination", (((0, 0), 1), ((1, 0), factor)))), False)
        for factor in [4, -2, 7]:
            self.assertIs(is_have(EXAMPLE, spots, item, ("combination", (((0, 0), factor),))), False)

    def test_what_is_no_blind_data(self):
        item = Sum(3, (1, 0))
        self.assertIs(is_have(EXAMPLE, [(1, 0)], item, ("blind", (2, 0))), True)
        for word in ["other", "Blind", "combination", "", b"blind", None, EqualToAll()]:
            self.assertIs(is_have(EXAMPLE, [(1, 0)], item, (word, (2, 0))), False)
        wrong = [[1, 0], (0, 0), (0, 1), (1, 1), (1,), (1, 0, 0), (4, 0), (-1, 0), (True, 0), (1, False), (1.0, 0)]
        for told in wrong + ODD + [0, (), []]:
            self.assertIs(is_have(EXAMPLE, [(1, 0)], item, ("blind", told)), False)

    def test_wrong_spots_then_a_wrong_sum(self):
        wrong = [[(1, 0), (0, 0)], [(0, 0), (0, 0)], [(0, 1)], [[0, 0]], [(0, 0), None], (0, 0), [(False, 0)], ["00"]]
        for spots in NO_LISTS + wrong + [EXAMPLE]:
            self.assertIs(raised(InvalidSpots, have, EXAMPLE, spots, None).value, spots)
            self.assertIs(raised(InvalidSpots, is_have, EXAMPLE, spots, None, None).value, spots)
        for item in ODD + [0, (1, 0), [1, 0], Sum(3, (1,)), Sum(2, (1, 0)), Sum(5, (1, 0)), EXAMPLE]:
            self.assertIs(raised(InvalidSum, have, EXAMPLE, [(0, 0)], item).value, item)
            self.assertIs(raised(InvalidSum, is_have, EXAMPLE, [(0, 0)], item, None).value, item)


class FatalTest(unittest.TestCase):
    def least_fatal_sets(self, table, wishes):
        """Return what fatal must tell, by going through all sets of pieces and all data."""
        found = []
        for group in subsets(range(len(table))):
            if any(set(smaller) <= set(group) for smaller, _ in found):
                continue
            left = [spot for spot in table if spot[0] not in group]
            zeros = zeros_of(table.prime, table.size, rows_at(table, left))
            blind = [data for data in zeros if any(value_of(table.prime, row, data) for row in wishes)]
            if blind:
                found.append((tuple(group), blind[0]))
        return found

    def test_against_all_sets_and_all_data(self):
        for table in TABLES:
            rows = data_of(table.prime, table.size)
            for wishes in [[row] for row in rows] + [rows[1:4], rows[-2:], rows[:2], rows[2:12]]:
                wishes = wishes or rows[:1]
                told = fatal(table, [Sum(table.prime, row) for row in wishes])
                self.assertEqual(told, self.least_fatal_sets(table, wishes))
                self.assertEqual(told, fatal(table, tuple(Sum(table.prime, row) for row in wishes)))

    def test_wishes_that_are_always_or_never_had(self):
        self.assertEqual(fatal(EXAMPLE, [Sum(3, (0, 0))]), [])
        half = Table(3, 2, [[(1, 0)], [(2, 0)]])
        self.assertEqual(fatal(half, [Sum(3, (1, 0)), Sum(3, (0, 1))]), [((), (0, 1))])
        self.assertEqual(fatal(table=half, wishes=[Sum(3, (1, 0))]), [((0, 1), (1, 0))])

    def test_sets_of_one_number_ascend(self):
        table = Table(2, 2, [[(1, 0)], [(0, 1)], [(0, 1)], [(1, 0)]])
        told = fatal(table, [Sum(2, (1, 0)), Sum(2, (0, 1))])
        self.assertEqual(told, [((0, 3), (1, 0)), ((1, 2), (0, 1))])
        table = Table(2, 3, [[(1, 0, 0)], [(0, 1, 0)], [(0, 0, 1)], [(0, 0, 1)], [(0, 1, 0), (1, 0, 0)]])
        units = [Sum.unit(2, 3, index) for index in range(3)]
        self.assertEqual(fatal(table, units), [((0, 4), (1, 0, 0)), ((1, 4), (0, 1, 0)), ((2, 3), (0, 0, 1))])

    def test_all_pieces_together_can_be_the_only_fatal_set(self):
        table = Table(2, 1, [[(1,)]] * 6)
        self.assertEqual(fatal(table, [Sum(2, (1,))] * 10), [((0, 1, 2, 3, 4, 5), (1,))])

    def test_wrong_wishes(self):
        good = Sum(3, (1, 0))
        wrong = [[], (), [good] * 11, [good, None], [good, Sum(3, (1,))], [Sum(2, (1, 0))], [(1, 0)], [[good]], good]
        for wishes in NO_LISTS + wrong:
            self.assertIs(raised(InvalidWishes, fatal, EXAMPLE, wishes).value, wishes)
        self.assertEqual(fatal(EXAMPLE, [good] * 10), fatal(EXAMPLE, (good,)))

    def test_returned_lists_are_new(self):
        told = fatal(EXAMPLE, [Sum(3, (1, 0))])
        told.clear()
        self.assertEqual(len(fatal(EXAMPLE, [Sum(3, (1, 0))])), 2)


if __name__ == "__main__":
    unittest.main()
