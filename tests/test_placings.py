import time
import unittest
from itertools import product
from random import Random

from leastreads.errors import InvalidNumber, InvalidPieces, InvalidPlacing, LimitExceeded, Lost
from leastreads.placings import Placing, best_placing, fatal_machines, survival
from leastreads.tables import Table
from net_support import is_zero_at
from support import (
    NO_INTEGERS, NO_LISTS, ODD, EqualToAll, is_proper_data, raised, random_table, rows_at, subsets, zeros_of,
)  # fmt: skip

TABLE = Table(3, 2, [[(1, 0)], [(0, 1)], [(1, 1)], [(1, 2)]])
SHAPES = [(2, 1, [1, 1, 1]), (2, 2, [1, 1, 1, 1]), (2, 3, [2, 1, 2, 1]), (3, 2, [1, 1, 1, 1]), (3, 1, [1, 1]), (2, 2, [1] * 5)]


def left_of(table, where, machines):
    """Return the spots of the pieces that are left when machines go."""
    return [spot for spot in table if where[spot[0]] is not None and where[spot[0]] not in machines]


def blind_at(table, where, machines):
    """Return all data, not all zeros, for which all that is left is 0."""
    return zeros_of(table.prime, table.size, rows_at(table, left_of(table, where, machines)))[1:]


def survival_of(table, many, where):
    """Return the survival by going through all sets of machines and all data."""
    fatal = [group for group in subsets(range(many)) if blind_at(table, where, group)]
    return min(len(group) for group in fatal) - 1


def cases(seed, many, whole=False):
    random = Random(seed)
    told = 0
    while told < many:
        prime, size, counts = SHAPES[told % len(SHAPES)]
        table = random_table(random, prime, size, counts)
        if not whole or table.is_whole:
            told += 1
            yield random, table


class PlacingTest(unittest.TestCase):
    def setUp(self):
        self.placing = Placing(4, [3, None, 0, 3])

    def test_properties(self):
        self.assertEqual((self.placing.machines, self.placing.where), (4, (3, None, 0, 3)))
        for name in ["machines", "where"]:
            self.assertRaises(AttributeError, setattr, self.placing, name, 1)

    def test_lists_and_tuples_alike_and_no_reference_kept(self):
        where = [3, None, 0, 3]
        placing = Placing(machines=4, where=where)
        self.assertEqual(placing, Placing(4, tuple(where)))
        where[0] = 1
        self.assertEqual(placing, self.placing)

    def test_items_and_iteration(self):
        self.assertEqual([self.placing[piece] for piece in range(4)], [3, None, 0, 3])
        self.assertEqual(list(self.placing), [3, None, 0, 3])
        for piece in NO_INTEGERS + [-1, 4, slice(0, 1), 10**25]:
            self.assertIs(raised(InvalidPieces, self.placing.__getitem__, piece).value, piece)

    def test_on(self):
        self.assertEqual([self.placing.on(machine) for machine in range(4)], [(2,), (), (), (0, 3)])
        self.assertEqual(self.placing.on(machine=3), (0, 3))
        for machine in NO_INTEGERS + [-1, 4]:
            self.assertIs(raised(InvalidNumber, self.placing.on, machine).value, machine)

    def test_moved(self):
        self.assertEqual(self.placing.moved(1, 2), Placing(4, [3, 2, 0, 3]))
        self.assertEqual(self.placing.moved(piece=0, machine=3), self.placing)
        self.assertEqual(self.placing.moved(3, 0).where, (3, None, 0, 0))
        self.assertEqual(self.placing.where, (3, None, 0, 3))
        for piece in NO_INTEGERS + [-1, 4]:
            self.assertIs(raised(InvalidPieces, self.placing.moved, piece, None).value, piece)
        for machine in NO_INTEGERS + [-1, 4]:
            self.assertIs(raised(InvalidNumber, self.placing.moved, 0, machine).value, machine)

    def test_without(self):
        self.assertEqual(self.placing.without([]), self.placing)
        self.assertEqual(self.placing.without([3]).where, (None, None, 0, None))
        self.assertEqual(self.placing.without(machines=(0, 1, 2, 3)), Placing(4, [None] * 4))
        for machines in NO_LISTS + [[1, 0], [0, 0], [4], [-1], [True], [None], ["0"], [(0,)], [0, 1, 2, 3, 4]]:
            self.assertIs(raised(InvalidNumber, self.placing.without, machines).value, machines)

    def test_equality(self):
        self.assertTrue(self.placing == Placing(4, (3, None, 0, 3)))
        self.assertFalse(self.placing != Placing(4, (3, None, 0, 3)))
        for other in [Placing(5, [3, None, 0, 3]), Placing(4, [3, 0, 0, 3]), Placing(4, [3]), (3, None, 0, 3)] + ODD:
            self.assertFalse(self.placing == other)
            self.assertTrue(self.placing != other)
        self.assertFalse(self.placing.__eq__(EqualToAll()))

    def test_wrong_machines_then_wrong_where(self):
        for machines in NO_INTEGERS + [0, 7, -1, 10**25]:
            self.assertIs(raised(InvalidNumber, Placing, machines, None).value, machines)
        wrong = [[], (), [0] * 7, [2], [-1], [0, True], [False], ["0"], [(0,)], [1.0], [[None]], [EqualToAll()]]
        for where in NO_LISTS + wrong:
            self.assertIs(raised(InvalidPlacing, Placing, 2, where).value, where)
        for machines in range(1, 7):
            for many in range(1, 7):
                self.assertEqual(Placing(machines, [machines - 1] * many).on(machines - 1), tuple(range(many)))


class SurvivalTest(unittest.TestCase):
    def test_against_all_sets_of_machines(self):
        seen = set()
        for random, table in cases(71, 90):
            for many in range(1, 7):
                where = [random.choice([None, *range(many)] * 2 + [0]) for _ in range(len(table))]
                if random.random() < 0.6:
                    where = [random.randrange(many) for _ in where]
                told = survival(table, Placing(many, where))
                self.assertEqual(told, survival_of(table, many, where))
                seen.add(told)
        self.assertTrue({-1, 0, 1, 2} <= seen)

    def test_one_machine_and_six(self):
        same = Table(2, 1, [[(1,)]] * 6)
        self.assertEqual(survival(same, Placing(1, [0] * 6)), 0)
        self.assertEqual(survival(same, Placing(6, [0] * 6)), 0)
        self.assertEqual(survival(table=same, placing=Placing(6, [0, 1, 2, 3, 4, 5])), 5)
        self.assertEqual(survival(same, Placing(6, [0, None, 2, None, None, 0])), 1)

    def test_survival_minus_1(self):
        self.assertEqual(survival(TABLE, Placing(3, [None, None, None, 2])), -1)
        self.assertEqual(survival(TABLE, Placing(3, [None] * 4)), -1)
        self.assertEqual(survival(Table(2, 2, [[(1, 0)], [(1, 0)]]), Placing(2, [0, 1])), -1)

    def test_wrong_placings(self):
        for placing in ODD + [0, (0, 0, 1, 1), TABLE, Placing(3, [0, 1, 2]), Placing(3, [0, 1, 2, 0, 1])]:
            self.assertIs(raised(InvalidPlacing, survival, TABLE, placing).value, placing)
            self.assertIs(raised(InvalidPlacing, fatal_machines, TABLE, placing).value, placing)


class FatalMachinesTest(unittest.TestCase):
    def test_against_all_sets_of_machines(self):
        for random, table in cases(72, 60):
            for many in range(1, 7):
                where = [random.choice([None, *range(many), 0]) for _ in range(len(table))]
                fatal = [group for group in subsets(range(many)) if blind_at(table, where, group)]
                least = [group for group in fatal if not any(set(other) < set(group) for other in fatal)]
                told = fatal_machines(table, Placing(many, where))
                self.assertEqual([machines for machines, _ in told], least)
                for machines, data in told:
                    self.assertTrue(is_proper_data(table, data) and any(data))
                    self.assertTrue(is_zero_at(table, left_of(table, where, machines), data))

    def test_no_machine_and_all_machines(self):
        self.assertEqual(fatal_machines(TABLE, Placing(3, [None, None, None, 2])), [((), (1, 1))])
        self.assertEqual(fatal_machines(TABLE, Placing(1, [0] * 4)), [((0,), (0, 1))])
        same = Table(2, 1, [[(1,)]] * 6)
        self.assertEqual(fatal_machines(same, Placing(6, [5, 4, 3, 2, 1, 0])), [((0, 1, 2, 3, 4, 5), (1,))])

    def test_returned_lists_are_new(self):
        placing = Placing(3, [0, 0, 1, 2])
        told = fatal_machines(table=TABLE, placing=placing)
        self.assertEqual(told, [((0, 1), (1, 1)), ((0, 2), (1, 2))])
        told.clear()
        self.assertEqual(len(fatal_machines(TABLE, placing)), 2)


class BestPlacingTest(unittest.TestCase):
    def check(self, table, machines, limit):
        """Check the best placing against all placings, and its bars by the words of point 15."""
        placing, most, bars = best_placing(table, machines, limit)
        rows = list(product(range(machines), repeat=len(table)))
        rows = [where for where in rows if max(where.count(machine) for machine in where) <= limit]
        told = [survival_of(table, machines, where) for where in rows]
        self.assertEqual(most, max(told))
        self.assertEqual(placing, Placing(machines, rows[told.index(most)]))
        self.check_bars(table, rows, most, bars)

    def check_bars(self, table, rows, most, bars):
        self.assertIs(type(bars), tuple)
        for pieces, data in bars:
            self.assertTrue(list(pieces) == sorted(set(pieces)) and type(pieces) is tuple)
            self.assertTrue(set(pieces) <= set(range(len(table))))
            self.assertTrue(is_proper_data(table, data) and any(data))
            self.assertTrue(is_zero_at(table, [spot for spot in table if spot[0] not in pieces], data))
        for where in rows:
            self.assertTrue(any(len({where[piece] for piece in pieces}) <= most + 1 for pieces, _ in bars))

    def test_against_all_placings(self):
        for random, table in cases(73, 48, whole=True):
            machines = random.randint(1, 4)
            self.check(table, machines, random.randint(-(-len(table) // machines), 6))

    def test_just_enough_and_too_little_room(self):
        for machines, limit in [(1, 4), (2, 2), (3, 2), (4, 1), (5, 1), (6, 1)]:
            self.check(TABLE, machines, limit)
        self.assertEqual(best_placing(TABLE, 4, 1)[:2], (Placing(4, [0, 1, 2, 3]), 2))
        self.assertEqual(best_placing(table=TABLE, machines=2, limit=2)[:2], (Placing(2, [0, 0, 1, 1]), 1))
        for machines, limit in [(1, 3), (2, 1), (3, 1), (1, 1)]:
            self.assertEqual(raised(LimitExceeded, best_placing, TABLE, machines, limit).limit, limit)

    def test_one_machine(self):
        self.assertEqual(best_placing(TABLE, 1, 6)[:2], (Placing(1, [0] * 4), 0))
        self.assertEqual(best_placing(Table(2, 1, [[(1,)]]), 6, 1)[:2], (Placing(6, [0]), 0))

    def test_the_order_of_pieces_and_changes_of_data_change_no_survival(self):
        for random, table in cases(74, 24, whole=True):
            order = random.sample(range(len(table)), len(table))
            where = [random.randrange(3) for _ in order]
            turned = Table(table.prime, table.size, [[row[::-1] for row in parts[::-1]] for parts in table.pieces])
            told = survival(table, Placing(3, where)), best_placing(table, 3, 2)[1]
            moved = Placing(3, [where[piece] for piece in order])
            self.assertEqual((survival(table.ordered(order), moved), best_placing(table.ordered(order), 3, 2)[1]), told)
            self.assertEqual((survival(turned, Placing(3, where)), best_placing(turned, 3, 2)[1]), told)
            numbers = [len(machines) for machines, _ in fatal_machines(table, Placing(3, where))]
            self.assertEqual([len(machines) for machines, _ in fatal_machines(table.ordered(order), moved)], numbers)
            self.assertEqual([len(machines) for machines, _ in fatal_machines(turned, Placing(3, where))], numbers)

    def test_greatest_inputs_within_seconds(self):
        random = Random(75)
        for prime, size, machines, counts in [(2, 6, 4, [2, 2, 2, 2, 1, 1]), (3, 6, 4, [2] * 4 + [1] * 2), (3, 2, 4, [1] * 6),
                                              (2, 6, 5, [2] * 5), (3, 6, 6, [3, 3, 2, 2]), (2, 1, 6, [1] * 4)]:  # fmt: skip
            table = random_table(random, prime, size, counts)
            while not table.is_whole:
                table = random_table(random, prime, size, counts)
            begun = time.monotonic()
            for limit in [2, 6]:
                placing, most, bars = best_placing(table, machines, limit)
                self.assertLess(time.monotonic() - begun, 10)
                self.assertEqual(survival_of(table, machines, placing.where), most)
                rows = list(product(range(machines), repeat=len(table)))
                rows = [where for where in rows if max(where.count(machine) for machine in where) <= limit]
                self.check_bars(table, rows, most, bars)

    def test_errors_in_order(self):
        half = Table(2, 2, [[(1, 0)]] * 6)
        for machines in NO_INTEGERS + [0, 7, -1]:
            self.assertIs(raised(InvalidNumber, best_placing, half, machines, None).value, machines)
        for limit in NO_INTEGERS + [0, 7, -1]:
            self.assertIs(raised(InvalidNumber, best_placing, half, 1, limit).value, limit)
        self.assertEqual(raised(LimitExceeded, best_placing, half, 5, 1).limit, 1)
        for machines in [2, 5, 6]:
            self.assertEqual(raised(Lost, best_placing, half, machines, 3).blind, (0, 1))
        for many, machines in [(6, 5), (6, 6), (5, 6)]:
            same = Table(2, 1, [[(1,)]] * many)
            self.assertEqual(raised(LimitExceeded, best_placing, same, machines, 6).limit, 4096)
        self.assertEqual(best_placing(Table(2, 1, [[(1,)]] * 6), 4, 6)[1], 3)


if __name__ == "__main__":
    unittest.main()
