import time
import unittest
from itertools import permutations, product
from random import Random

from leastreads.errors import InvalidData, InvalidOperand, LimitExceeded
from leastreads.judged import alike, fewest_touches, is_alike, is_fewest_touches, rebased, sizes, touches
from leastreads.sums import Sum
from leastreads.tables import Table
from paper_support import is_among, variants
from support import NO_LISTS, ODD, data_of, raised, random_table, span_of, subsets, value_of
from test_wrong import parts_of

TABLE = Table(2, 2, [[(1, 0)], [(1, 1)], [(1, 1)]])
SHAPES = [
    (2, 1, [1, 1]), (2, 2, [1, 1, 1]), (2, 2, [2, 1, 1]), (2, 2, [1, 1, 1, 1]), (2, 3, [1, 1, 2]), (3, 1, [1, 1]),
    (3, 2, [1, 1, 1]), (3, 2, [2, 1, 1]), (5, 1, [1, 2]), (7, 1, [1, 1]), (2, 3, [2, 2]),
]  # fmt: skip


def changed_by(prime, change, factors):
    """Return the factors of a sum that a change makes."""
    return tuple(sum(f * row[k] for f, row in zip(factors, change)) % prime for k in range(len(factors)))


def changes_of(prime, size):
    """Return all changes, as tuples of rows of factors that give everything."""
    rows = data_of(prime, size)
    return [rows for rows in product(rows, repeat=size) if len(span_of(prime, size, rows)) == prime**size]


def goes_with(one, other, order, change):
    """Return whether an order and a change show that tables are alike."""
    for index, piece in enumerate(order):
        made = [changed_by(one.prime, change, row) for row in one.pieces[piece]]
        if span_of(one.prime, one.size, made) != span_of(one.prime, one.size, other.pieces[index]):
            return False
    return True


def first_order(one, other, changes):
    """Return the first order for which there is a change, by going through all of both, or None."""
    for order in permutations(range(len(one))):
        if any(goes_with(one, other, order, change) for change in changes):
            return order
    return None


def disguised(random, table):
    """Return a table that is alike, with other pieces at each index, other parts and other data."""
    order = random.sample(range(len(table)), len(table))
    change = random.choice(changes_of(table.prime, table.size))
    pieces = []
    for piece in order:
        rows = [changed_by(table.prime, change, row) for row in table.pieces[piece]]
        times = random.randrange(1, table.prime)
        rows = [tuple(times * value % table.prime for value in row) for row in rows[::-1]]
        if len(rows) > 1:
            rows[0] = tuple((a + b) % table.prime for a, b in zip(rows[0], rows[1]))
        pieces.append(rows)
    return Table(table.prime, table.size, pieces)


def pairs(seed, many):
    """Generate pairs of tables, half of them alike."""
    random = Random(seed)
    for number in range(many):
        prime, size, counts = SHAPES[number % len(SHAPES)]
        one = random_table(random, prime, size, counts)
        yield random, one, disguised(random, one) if number // len(SHAPES) % 2 else random_table(random, prime, size, counts)


class AlikeTest(unittest.TestCase):
    def test_example(self):
        other = Table(2, 2, [[(0, 1)], [(1, 0)], [(0, 1)]])
        self.assertEqual([sizes(TABLE), touches(TABLE, (1, 0)), fewest_touches(TABLE)[0], alike(TABLE, other)[0]],
                         [[(1, 1, 1), (1, 2, 2), (2,)], 3, 3, (1, 0, 2)])  # fmt: skip

    def test_against_all_orders_and_all_changes(self):
        told = []
        for _, one, other in pairs(501, 132):
            changes = changes_of(one.prime, one.size)
            order = first_order(one, other, changes)
            value = alike(one=one, other=other)
            told.append(order is not None)
            if order is None:
                self.assertIsNone(value)
                continue
            self.assertTrue(is_among(value[0], [order]))
            self.assertTrue(type(value) is tuple and type(value[1]) is tuple and all(type(s) is Sum for s in value[1]))
            rows = tuple(item.factors for item in value[1])
            self.assertIn(rows, changes)
            self.assertTrue(goes_with(one, other, order, rows))
            self.assertIs(is_alike(one, other, value), True)
            self.assertEqual(sizes(one), sizes(other))
        self.assertGreater(told.count(True), 40)
        self.assertGreater(told.count(False), 20)

    def test_all_orders_and_changes_judged(self):
        told = []
        for _, one, other in pairs(502, 44):
            changes = changes_of(one.prime, one.size)
            for order in list(permutations(range(len(one))))[:6]:
                for change in changes[:: max(1, len(changes) // 24)]:
                    value = (order, tuple(Sum(one.prime, row) for row in change))
                    told.append(goes_with(one, other, order, change))
                    self.assertIs(is_alike(one=one, other=other, value=value), told[-1])
        self.assertGreater(told.count(True), 50)
        self.assertGreater(told.count(False), 500)

    def test_rows_that_give_not_everything(self):
        zero = Table(3, 2, [[(0, 0)], [(0, 0), (0, 0)]])
        for rows in product(data_of(3, 2), repeat=2):
            value = ((0, 1), tuple(Sum(3, row) for row in rows))
            self.assertIs(is_alike(zero, zero, value), len(span_of(3, 2, rows)) == 9)
        self.assertEqual(alike(zero, zero)[0], (0, 1))

    def test_equal_sizes_do_not_tell_that_tables_are_alike(self):
        # Of four points on a line their cross-ratio stays; 2 and 4 have the same orders of it, 2 and 3 have not.
        tables = [Table(7, 2, [[(1, 0)], [(0, 1)], [(1, 1)], [(1, ratio)]]) for ratio in [2, 4, 3]]
        changes = changes_of(7, 2)
        for left, right, are in [(0, 1, True), (0, 2, False), (2, 0, False), (1, 2, False), (2, 2, True)]:
            one, other = tables[left], tables[right]
            self.assertEqual(sizes(one), sizes(other))
            value = alike(one, other)
            self.assertEqual((value is not None, None if value is None else value[0]), (are, first_order(one, other, changes)))

    def test_altered_in_each_place(self):
        for random, one, other in pairs(503, 66):
            value = alike(one, other)
            if value is None:
                continue
            order, change = value
            rows = tuple(item.factors for item in change)
            for made in variants((order, rows)):
                right = (
                    type(made) is tuple and len(made) == 2 and is_among(made[0], permutations(range(len(one))))
                    and is_among(made[1], changes_of(one.prime, one.size)) and goes_with(one, other, *made)
                )  # fmt: skip
                # Of what is altered within the factors, only what is a Sum still.
                if type(made) is tuple and len(made) == 2 and type(made[1]) is tuple:
                    if all(type(row) is tuple and row in data_of(one.prime, one.size) for row in made[1]):
                        items = tuple(Sum(one.prime, [int(value) for value in row]) for row in made[1])
                        if is_among(tuple(item.factors for item in items), [made[1]]):
                            self.assertIs(is_alike(one, other, (made[0], items)), right)
            for odd in ODD + [0, [], list(value), value[:1], value + (0,), (list(order), change), (order, list(change))]:
                self.assertIs(is_alike(one, other, odd), False)
                self.assertIs(is_alike(one, other, (order, odd)), False)
                self.assertIs(is_alike(one, other, (odd, change)), False)
                self.assertIs(is_alike(one, other, (order, (odd, *change[1:]))), False)
                self.assertIs(is_alike(one, other, ((odd, *order[1:]), change)), odd is not True and odd is not False
                              and type(odd) is int and odd == order[0])  # fmt: skip

    def test_greatest_tables_within_seconds(self):
        random = Random(504)
        for prime, size in [(2, 3), (3, 3), (5, 2), (7, 2)]:
            for counts in [[1] * 6, [2, 2, 2, 2, 1, 1], [1, 1], [3, 3, 3]]:
                one = random_table(random, prime, size, counts)
                order = random.sample(range(len(one)), len(one))
                begun = time.monotonic()
                for other in [one.ordered(order), random_table(random, prime, size, counts)]:
                    value = alike(one, other)
                    self.assertTrue(value is None or is_alike(one, other, value))
                self.assertIsNotNone(alike(one, one.ordered(order)))
                self.assertLess(time.monotonic() - begun, 10)
        self.assertEqual(alike(Table(3, 3, [[(1, 0, 0)]] * 6), Table(3, 3, [[(1, 1, 1)]] * 6))[0], (0, 1, 2, 3, 4, 5))

    def test_errors(self):
        others = [Table(3, 2, [[(1, 0)]] * 3), Table(2, 1, [[(1,)]] * 3)]
        others += [Table(2, 2, [[(1, 0)]] * many) for many in (2, 4)]
        for other in ODD + [0, [], TABLE.pieces] + others:
            self.assertIs(raised(InvalidOperand, alike, TABLE, other).other, other)
            self.assertIs(raised(InvalidOperand, is_alike, TABLE, other, None).other, other)
        self.assertIsNone(alike(TABLE, Table(2, 2, [[(1, 0), (0, 1)], [(1, 1)], [(1, 1)]])))

    def test_limit(self):
        for prime, greatest in [(2, 3), (3, 3), (5, 2), (7, 2)]:
            for size in range(1, {2: 6, 3: 6, 5: 5, 7: 4}[prime] + 1):
                table = Table(prime, size, [[(1,) * size]])
                if size > greatest:
                    self.assertEqual(raised(LimitExceeded, alike, table, table).limit, 20000)
                    self.assertIs(raised(InvalidOperand, alike, table, TABLE).other, TABLE)
                else:
                    self.assertEqual(alike(table, table)[0], (0,))
                units = tuple(Sum.unit(prime, size, index) for index in range(size))
                self.assertIs(is_alike(table, table, ((0,), units)), True)
                self.assertIs(is_alike(table, table, ((0,), units[:-1] + units[:1])), size == 1)


class SizesTest(unittest.TestCase):
    def test_against_all_sums(self):
        for _, table, other in pairs(511, 66):
            told = sizes(table=table)
            self.assertEqual(len(told), len(table))
            for many, lens in enumerate(told, 1):
                groups = [group for group in subsets(range(len(table))) if len(group) == many]
                spans = [span_of(table.prime, table.size, [row for p in group for row in table.pieces[p]]) for group in groups]
                right = sorted(next(k for k in range(table.size + 1) if table.prime**k == len(span)) for span in spans)
                self.assertEqual(lens, tuple(right))
            self.assertIs(type(told), list)


class TouchesTest(unittest.TestCase):
    def bases(self, table):
        """Return all bases, by going through all tuples of data."""
        rows = data_of(table.prime, table.size)
        return [base for base in product(rows, repeat=table.size)
                if len(span_of(table.prime, table.size, base)) == table.prime**table.size]  # fmt: skip

    def touched(self, table, data):
        return sum(any(value_of(table.prime, row, data) for row in parts) for parts in table.pieces)

    def test_touches(self):
        for _, table, _ in pairs(521, 33):
            for data in data_of(table.prime, table.size)[1:]:
                self.assertEqual(touches(table, data), self.touched(table, data))
                self.assertEqual(touches(table=table, data=list(data)), self.touched(table, data))

    def test_wrong_data(self):
        for data in NO_LISTS + [[], (0, 0), [0, 0], (1,), (1, 0, 0), (2, 0), (-1, 0), (True, 0), (None, 1), "10"]:
            self.assertIs(raised(InvalidData, touches, TABLE, data).value, data)

    def test_fewest_touches_against_all_tuples(self):
        for _, table, _ in pairs(522, 44):
            bases = self.bases(table)
            fewest = min(sum(self.touched(table, data) for data in base) for base in bases)
            total, base = fewest_touches(table=table)
            self.assertEqual(total, fewest)
            self.assertIn(base, bases)
            counts = [self.touched(table, data) for data in base]
            self.assertEqual((counts, sum(counts)), (sorted(counts), total))
            self.assertIs(is_fewest_touches(table, (total, base)), True)

    def is_right(self, table, bases, fewest, value):
        if type(value) is not tuple or len(value) != 2 or not is_among(value[1], bases):
            return False
        counts = [self.touched(table, data) for data in value[1]]
        return counts == sorted(counts) and type(value[0]) is int and value[0] == sum(counts) == fewest

    def test_all_bases_judged(self):
        told = []
        for random, table, _ in pairs(523, 33):
            bases, fewest = self.bases(table), fewest_touches(table)[0]
            rows = data_of(table.prime, table.size)
            for base in random.choices(bases, k=30) + [tuple(random.choices(rows, k=table.size)) for _ in range(10)]:
                for total in {sum(self.touched(table, data) for data in base), fewest}:
                    value = (total, base)
                    told.append(is_fewest_touches(table=table, value=value))
                    self.assertIs(told[-1], self.is_right(table, bases, fewest, value))
        self.assertGreater(told.count(True), 50)
        self.assertGreater(told.count(False), 200)

    def test_altered_in_each_place(self):
        for _, table, _ in pairs(524, 22):
            bases, (fewest, base) = self.bases(table), fewest_touches(table)
            for value in variants((fewest, base)):
                self.assertIs(is_fewest_touches(table, value), self.is_right(table, bases, fewest, value), value)
        for value in ODD + [0, []]:
            self.assertIs(is_fewest_touches(TABLE, value), False)
            self.assertIs(is_fewest_touches(TABLE, (3, value)), False)
            self.assertIs(is_fewest_touches(TABLE, (value, fewest_touches(TABLE)[1])), False)

    def test_pieces_without_anything(self):
        table = Table(2, 1, [[(0,)]])
        self.assertEqual(fewest_touches(table), (0, ((1,),)))
        self.assertIs(is_fewest_touches(table, (0, ((1,),))), True)
        self.assertIs(is_fewest_touches(table, (False, ((1,),))), False)

    def test_rebased(self):
        for random, table, _ in pairs(525, 44):
            base = random.choice(self.bases(table))
            told = rebased(table=table, base=base)
            self.assertEqual((told.prime, told.size), (table.prime, table.size))
            # What the new table stores of data, the old one stores of the sum of the base's data with these factors.
            for data in data_of(table.prime, table.size):
                rows = [tuple(times * value for value in row) for times, row in zip(data, base)]
                total = tuple(sum(column) % table.prime for column in zip(*rows))
                self.assertEqual(parts_of(told, data), parts_of(table, total))
            self.assertEqual(told, rebased(table, tuple(list(data) for data in base)))
            self.assertEqual(fewest_touches(told)[0], fewest_touches(table)[0])
        units = ((1, 0), (0, 1))
        self.assertEqual(rebased(TABLE, units), TABLE)

    def test_wrong_bases(self):
        wrong = [(), ((1, 0),), ((1, 0), (1, 0)), ((1, 0), (0, 0)), ((1, 0), (0, 2)), ((1, 0), (0, True)), ((1, 0), None),
                 ((1, 0), (0, 1), (1, 1)), [(1, 0), (0, 1)], ((1, 0), "01"), ((1, 0), (0,)), (1, 0)]  # fmt: skip
        for base in NO_LISTS + wrong:
            self.assertIs(raised(InvalidData, rebased, TABLE, base).value, base)

    def test_greatest_tables_within_seconds(self):
        random = Random(526)
        for prime, size in [(2, 6), (3, 6), (5, 5), (7, 4)]:
            for table in [random_table(random, prime, size, [2, 2, 2, 2, 1, 1]), Table(prime, size, [[(0,) * size]])]:
                begun = time.monotonic()
                value = fewest_touches(table)
                self.assertTrue(is_fewest_touches(table, value))
                self.assertEqual(fewest_touches(rebased(table, value[1]))[0], value[0])
                sizes(table)
                self.assertLess(time.monotonic() - begun, 10)


class OrderTest(unittest.TestCase):
    def test_the_order_of_pieces_changes_no_touches(self):
        for random, table, _ in pairs(531, 44):
            order = random.sample(range(len(table)), len(table))
            other = table.ordered(order)
            self.assertEqual((fewest_touches(other)[0], sizes(other)), (fewest_touches(table)[0], sizes(table)))
            self.assertIsNotNone(alike(table, other))


if __name__ == "__main__":
    unittest.main()
