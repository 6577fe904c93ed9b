import time
import unittest
from itertools import product
from random import Random

from leastreads.errors import InvalidPieces, InvalidStored, InvalidWishes, Unsure
from leastreads.stored import Stored
from leastreads.sums import Sum
from leastreads.tables import Table
from leastreads.wrong import agreed, clash, explanations, strength
from support import (
    NO_LISTS, ODD, data_of, is_proper_combination, is_proper_data, raised, random_sublist, random_sums, random_table,
    rows_at, subsets, sum_of, units_of, value_of, zeros_of,
)  # fmt: skip

TABLE = Table(3, 2, [[(1, 0)], [(0, 1)], [(1, 1)], [(1, 2)]])
BENT = Stored([(2,), (0,), (0,), (1,)])
SHAPES = [
    (2, 1, [1, 1, 1]), (2, 2, [2, 1, 1, 2]), (2, 3, [1, 1, 1, 1, 1, 1]), (2, 4, [2, 1, 3, 2]), (3, 1, [1, 2, 1]),
    (3, 2, [1, 1, 1, 1]), (3, 2, [2, 1, 2, 1]), (3, 3, [3, 3, 3]), (5, 2, [1, 1, 1, 1, 1]), (7, 1, [1, 1, 2]),
]  # fmt: skip


def parts_of(table, data):
    """Return the values of the parts of each piece for data."""
    return [tuple(value_of(table.prime, row, data) for row in parts) for parts in table.pieces]


def random_stored(random, table, wrong, gone):
    """Return what is stored for some data, some pieces being gone and some being bent at random."""
    pieces = parts_of(table, [random.randrange(table.prime) for _ in range(table.size)])
    for piece in random.sample(range(len(pieces)), min(wrong, len(pieces))):
        pieces[piece] = tuple(random.randrange(table.prime) for _ in pieces[piece])
    return Stored(pieces).without(sorted(random.sample(range(len(pieces)), min(gone, len(pieces)))))


def cases(seed, many):
    """Generate tables and what is stored."""
    random = Random(seed)
    for number in range(many):
        prime, size, counts = SHAPES[number % len(SHAPES)]
        table = random_table(random, prime, size, counts)
        yield table, random_stored(random, table, number % 4, number // 4 % 4)


def all_explanations(table, stored):
    """Return the ascending list of all explanations, with whatever number of pieces."""
    rows = []
    for data in data_of(table.prime, table.size):
        pairs = list(enumerate(zip(stored.pieces, parts_of(table, data))))
        rows.append((tuple(piece for piece, (one, two) in pairs if one is not None and one != two), data))
    return sorted(rows)


def fewest(table, stored):
    rows = all_explanations(table, stored)
    least = min(len(pieces) for pieces, _ in rows)
    return [row for row in rows if len(row[0]) == least]


def is_clash(table, stored, value):
    there = [spot for spot in table if stored.pieces[spot[0]] is not None]
    if not is_proper_combination(table, there, value) or any(sum_of(table, value)):
        return False
    return sum(stored.pieces[piece][part] * factor for (piece, part), factor in value) % table.prime != 0


class ClashTest(unittest.TestCase):
    def test_a_clash_or_some_data_that_fit(self):
        told = []
        for table, stored in cases(41, 240):
            value = clash(table, stored)
            fits = any(pieces == () for pieces, _ in all_explanations(table, stored))
            self.assertEqual(value is None, fits)
            self.assertTrue(fits or is_clash(table, stored, value), value)
            told.append(fits)
        self.assertGreater(told.count(True), 40)
        self.assertGreater(told.count(False), 40)

    def test_nothing_stored_and_nothing_wrong(self):
        self.assertIsNone(clash(TABLE, Stored([None] * 4)))
        for data in data_of(3, 2):
            self.assertIsNone(clash(table=TABLE, stored=TABLE(data)))

    def test_a_part_of_zeros_alone(self):
        table = Table(5, 1, [[(0,)], [(1,)]])
        self.assertEqual(raised_clash(table, Stored([(3,), (4,)])), [(0, 0)])
        self.assertIsNone(clash(table, Stored([(0,), (4,)])))

    def test_wrong_stored(self):
        good = TABLE((2, 1))
        wrong = [Stored([(0,)] * 3), good.bent(0, (3,)), good.bent(1, (0, 0)), good.without([1]).bent(0, (6,))]
        for stored in ODD + [0, [], good.pieces, TABLE] + wrong:
            self.assertIs(raised(InvalidStored, clash, TABLE, stored).value, stored)
            self.assertIs(raised(InvalidStored, explanations, TABLE, stored).value, stored)
            self.assertIs(raised(InvalidStored, agreed, TABLE, stored, None).value, stored)


def raised_clash(table, stored):
    """Return the spots of the clash that is told."""
    return [spot for spot, _ in clash(table, stored)]


class ExplanationsTest(unittest.TestCase):
    def check_paper(self, table, stored, told):
        """Check what is told by the words of point 12."""
        number, found, clashes = told
        there = [piece for piece in range(len(table)) if stored.pieces[piece] is not None]
        everything = all_explanations(table, stored)
        self.assertTrue(all(row in everything and len(row[0]) == number for row in found))
        self.assertTrue(1 <= len(found) <= 2 and list(found) == sorted(set(found)))
        self.assertTrue(type(found) is tuple and type(clashes) is tuple and type(number) is int)
        for data in [row[1] for row in found]:
            self.assertTrue(is_proper_data(table, data))
        for value in clashes:
            self.assertTrue(is_clash(table, stored, value), value)
        hit = [{spot[0] for spot, _ in value} for value in clashes]
        hitting = [group for group in subsets(there) if all(set(group) & pieces for pieces in hit)]
        self.assertFalse([group for group in hitting if len(group) < number])
        if len(found) == 1:
            self.assertEqual([group for group in hitting if len(group) == number], [found[0][0]])
            left = [spot for spot in table if spot[0] in there and spot[0] not in found[0][0]]
            self.assertEqual(len(zeros_of(table.prime, table.size, rows_at(table, left))), 1)

    def test_example(self):
        self.assertEqual(explanations(TABLE, BENT)[:2], (1, (((1,), (2, 1)),)))
        self.assertEqual(strength(TABLE), (3, (0, 1)))
        self.assertEqual(agreed(TABLE, BENT, [Sum(3, (0, 1))]), (1,))

    def test_against_all_data(self):
        many = [0, 0]
        for table, stored in cases(42, 320):
            rows = fewest(table, stored)
            told = explanations(table, stored)
            self.assertEqual(told[:2], (len(rows[0][0]), tuple(rows[:2])))
            self.check_paper(table, stored, told)
            self.assertEqual(told, explanations(table=table, stored=stored))
            many[len(told[1]) - 1] += 1
        self.assertGreater(min(many), 50)

    def test_everything_that_can_be_stored(self):
        for table in [TABLE, Table(2, 2, [[(1, 0), (0, 1)], [(1, 1)], [(0, 1)]]), Table(2, 1, [[(1,)]] * 5)]:
            counts = [len(parts) for parts in table.pieces]
            for pieces in product(*[[None, *product(range(table.prime), repeat=count)] for count in counts]):
                stored = Stored(pieces)
                told = explanations(table, stored)
                rows = fewest(table, stored)
                self.assertEqual(told[:2], (len(rows[0][0]), tuple(rows[:2])))
                self.check_paper(table, stored, told)

    def test_nothing_stored_at_all(self):
        self.assertEqual(explanations(TABLE, Stored([None] * 4)), (0, (((), (0, 0)), ((), (0, 1))), ()))

    def test_nothing_wrong(self):
        self.assertEqual(explanations(TABLE, TABLE((2, 1))), (0, (((), (2, 1)),), ()))
        half = Table(3, 2, [[(1, 0)], [(2, 0)]])
        self.assertEqual(explanations(half, half((2, 1))), (0, (((), (2, 0)), ((), (2, 1))), ()))

    def test_all_pieces_wrong(self):
        # A part of zeros alone tells of no data, so that each value but 0 is wrong.
        table = Table(3, 1, [[(0,)], [(0,)], [(0,), (0,)]])
        told = explanations(table, Stored([(1,), (2,), (0, 1)]))
        self.assertEqual(told[:2], (3, (((0, 1, 2), (0,)), ((0, 1, 2), (1,)))))
        self.check_paper(table, Stored([(1,), (2,), (0, 1)]), told)
        self.assertEqual(explanations(table, Stored([(1,), None, (0, 0)]))[0], 1)

    def test_tables_that_are_not_whole(self):
        table = Table(2, 2, [[(1, 0)], [(1, 0)], [(1, 0)]])
        told = explanations(table, Stored([(1,), (1,), (0,)]))
        self.assertEqual(told[:2], (1, (((2,), (1, 0)), ((2,), (1, 1)))))

    def test_less_than_half_of_the_strength_is_told_as_it_happened(self):
        for table, true, wrong, stored in happenings(43):
            if 2 * len(wrong) < strength(table, stored.gone)[0]:
                self.assertEqual(explanations(table, stored)[:2], (len(wrong), ((tuple(wrong), true),)))
                wishes = units_of(table)
                self.assertEqual(agreed(table, stored, wishes), true)

    def test_fewer_than_the_strength_are_seen(self):
        for table, _, wrong, stored in happenings(44):
            if 0 < len(wrong) < strength(table, stored.gone)[0]:
                self.assertIsNotNone(clash(table, stored))
                self.assertGreater(explanations(table, stored)[0], 0)

    def test_order_and_change_of_data_change_no_number(self):
        random = Random(45)
        for table, stored in cases(46, 120):
            order = random.sample(range(len(table)), len(table))
            other = Stored([stored.pieces[piece] for piece in order])
            self.assertEqual(explanations(table, stored)[0], explanations(table.ordered(order), other)[0])
            gone = sorted(order.index(piece) for piece in stored.gone)
            self.assertEqual(strength(table, stored.gone)[0], strength(table.ordered(order), gone)[0])
            turned = Table(table.prime, table.size, [[row[::-1] for row in parts[::-1]] for parts in table.pieces])
            other = Stored([None if values is None else values[::-1] for values in stored.pieces])
            self.assertEqual(explanations(table, stored)[0], explanations(turned, other)[0])
            self.assertEqual(strength(table, stored.gone)[0], strength(turned, stored.gone)[0])
            if table.size > 1:
                added = [[(row[0], (row[0] + row[1]) % table.prime, *row[2:]) for row in p] for p in table.pieces]
                changed = Table(table.prime, table.size, added)
                self.assertEqual(explanations(table, stored)[0], explanations(changed, stored)[0])
                self.assertEqual(strength(table, stored.gone)[0], strength(changed, stored.gone)[0])

    def test_greatest_tables_within_seconds(self):
        random = Random(47)
        for prime, size in [(2, 6), (3, 6), (5, 5), (7, 4)]:
            for counts in [[2, 2, 2, 2, 1, 1], [1, 1, 1, 1, 3, 3], [1] * 6]:
                table = random_table(random, prime, size, counts)
                begun = time.monotonic()
                for wrong in [0, 1, 3, 6]:
                    stored = random_stored(random, table, wrong, wrong % 2)
                    self.check_numbers(table, stored)
                self.assertLess(time.monotonic() - begun, 10)

    def check_numbers(self, table, stored):
        number, found, clashes = explanations(table, stored)
        self.assertEqual(len(found[0][0]), number)
        self.assertTrue(all(is_clash(table, stored, value) for value in clashes))
        self.assertEqual(clash(table, stored) is None, number == 0)
        strength(table, stored.gone)
        try:
            agreed(table, stored, units_of(table))
        except Unsure:
            self.assertEqual(len(found), 2)


def happenings(seed):
    """Generate tables, their true data, the pieces that become wrong, and what is stored then."""
    random = Random(seed)
    for number in range(200):
        prime, size, counts = [(2, 1, [1] * 6), (3, 2, [1] * 4), (5, 2, [1] * 6), (7, 2, [1] * 6), (2, 2, [2] * 5)][number % 5]
        table = random_table(random, prime, size, counts)
        true = tuple(random.randrange(prime) for _ in range(size))
        stored = table(true).without(sorted(random.sample(range(len(table)), number % 2)))
        wrong = sorted(random.sample([p for p in range(len(table)) if p not in stored.gone], random.randint(0, 3)))
        for piece in wrong:
            others = [row for row in product(range(prime), repeat=counts[piece]) if row != stored.pieces[piece]]
            stored = stored.bent(piece, random.choice(others))
        yield table, true, wrong, stored


class AgreedTest(unittest.TestCase):
    def test_against_all_data(self):
        random = Random(48)
        many = [0, 0]
        for table, stored in cases(49, 320):
            wishes = random_sums(random, table, random.randint(1, 3))
            rows = fewest(table, stored)
            values = [tuple(item(data) for item in wishes) for _, data in rows]
            others = [row for row, told in zip(rows, values) if told != values[0]]
            if others:
                found = raised(Unsure, agreed, table, stored, wishes).found
                self.assertEqual(found, (rows[0], others[0]))
                self.assertIs(type(found), tuple)
            else:
                self.assertEqual(agreed(table, stored, wishes), values[0])
                self.assertEqual(agreed(table=table, stored=stored, wishes=tuple(wishes)), values[0])
            many[len(others) > 0] += 1
        self.assertGreater(min(many), 50)

    def test_the_next_one_with_another_value_is_told(self):
        table = Table(3, 2, [[(1, 0)]])
        found = raised(Unsure, agreed, table, Stored([(2,)]), [Sum(3, (1, 0)), Sum(3, (0, 1))]).found
        self.assertEqual(found, (((), (2, 0)), ((), (2, 1))))
        found = raised(Unsure, agreed, table, Stored([None]), [Sum(3, (1, 0))]).found
        self.assertEqual(found, (((), (0, 0)), ((), (1, 0))))
        self.assertEqual(agreed(table, Stored([(2,)]), [Sum(3, (2, 0)), Sum(3, (0, 0))]), (1, 0))
        self.assertEqual(agreed(table, Stored([None]), [Sum(3, (0, 0))] * 10), (0,) * 10)

    def test_wrong_wishes(self):
        good = Sum(3, (1, 0))
        wrong = [[], (), [good] * 11, [good, None], [good, Sum(3, (1,))], [Sum(2, (1, 0))], [(1, 0)], [[good]], good]
        for wishes in NO_LISTS + wrong:
            self.assertIs(raised(InvalidWishes, agreed, TABLE, Stored([None] * 4), wishes).value, wishes)


class StrengthTest(unittest.TestCase):
    def strength_of(self, table, gone):
        """Return what strength must tell, by going through all data."""
        rows = []
        for data in data_of(table.prime, table.size)[1:]:
            pieces = [piece for piece, values in enumerate(parts_of(table, data)) if any(values) and piece not in gone]
            rows.append((len(pieces), data))
        return min(rows)

    def test_against_all_data(self):
        random = Random(50)
        for table, _ in cases(51, 120):
            for gone in [[], random_sublist(random, range(len(table))), list(range(len(table)))]:
                self.assertEqual(strength(table, gone), self.strength_of(table, gone))
                self.assertEqual(strength(table=table, gone=tuple(gone)), strength(table, gone))
            self.assertEqual(strength(table), strength(table, []))

    def test_strength_0(self):
        self.assertEqual(strength(Table(3, 2, [[(1, 0)], [(2, 0)]])), (0, (0, 1)))
        self.assertEqual(strength(Table(3, 2, [[(1, 1)], [(2, 2)]])), (0, (1, 2)))
        self.assertEqual(strength(TABLE, [0, 1, 2, 3]), (0, (0, 1)))
        self.assertEqual(strength(TABLE, [0, 1, 2]), (0, (1, 1)))
        self.assertEqual(strength(TABLE, [0, 1]), (1, (1, 1)))
        self.assertEqual(strength(Table(2, 1, [[(1,)]] * 6)), (6, (1,)))

    def test_wrong_gone_pieces(self):
        for gone in NO_LISTS + [[1, 0], [0, 0], [4], [-1], [True], [None], ["0"], [(0,)], [0, 1, 2, 3, 4]]:
            self.assertIs(raised(InvalidPieces, strength, TABLE, gone).value, gone)


if __name__ == "__main__":
    unittest.main()
