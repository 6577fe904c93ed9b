import time
import unittest
from itertools import product
from random import Random

from leastreads.costs import Prices
from leastreads.errors import (
    InvalidChange, InvalidCost, InvalidData, InvalidNumber, InvalidPieces, InvalidStored, InvalidWishes,
    LimitExceeded, Lost, Unsure,
)  # fmt: skip
from leastreads.nets import Net
from leastreads.reads import least
from leastreads.stored import Stored
from leastreads.sums import Sum
from leastreads.tables import Table
from leastreads.wrong import clash
from leastreads.writes import (
    is_safe_order, mixed, new_wishes, old_wishes, recover, remainders, rewritten, safe_order, touched, unsafe,
    write_reads,
)  # fmt: skip
from net_support import random_prices
from paper_support import PlainWrite, is_among, variants
from support import NO_INTEGERS, NO_LISTS, ODD, data_of, raised, random_table, subsets, value_of
from test_wrong import is_clash, parts_of

TABLE = Table(2, 2, [[(1, 0)], [(0, 1)], [(1, 1)]])
PRICES = Prices([[1]] * 3, [1] * 3, [0] * 3)
SHAPES = [
    (2, 1, [1, 1, 1]), (2, 2, [1, 1, 1]), (2, 2, [2, 1, 1]), (2, 2, [1, 1, 1, 1]), (2, 3, [1, 2, 1, 1]),
    (3, 1, [1, 2]), (3, 2, [1, 1, 1]), (3, 2, [1, 1, 1, 1]), (5, 1, [1, 1]), (2, 1, [1, 1, 1, 1, 1]),
]  # fmt: skip
WRONG_INDEXES = NO_LISTS + [[], (), [1, 0], [0, 0], [2], [-1], [True], [None], ["0"], [(0,)], [0, 1, 2]]
WRONG_PIECES = NO_LISTS + [[1, 0], [0, 0], [3], [-1], [True], [None], ["0"], [(0,)], [0, 1, 2, 3]]


def cases(seed, many):
    """Generate tables, changed indexes and gone pieces."""
    random = Random(seed)
    for number in range(many):
        prime, size, counts = SHAPES[number % len(SHAPES)]
        table = random_table(random, prime, size, counts)
        changed = random.choice(subsets(range(size))[1:])
        yield random, table, changed, random.choice(subsets(range(len(table)))) if number % 3 == 0 else ()


def with_changes(data, changed, values):
    new = list(data)
    for index, value in zip(changed, values):
        new[index] = value
    return tuple(new)


def mixture(table, old, new, written):
    """Return the values of the parts of each piece when some are written."""
    return [parts_of(table, new if piece in written else old)[piece] for piece in range(len(table))]


class MixedTest(unittest.TestCase):
    def test_example(self):
        first = [touched(TABLE, [0]), [item.factors for spot, item in remainders(TABLE, [0])], unsafe(TABLE, [0], [0], 1)]
        self.assertEqual(first, [(0, 2), [(0, 0), (0, 1)], ((0,), (1,), (1, 1, 0), (1, 1, 0))])
        last = [safe_order(TABLE, [0], 0), safe_order(TABLE, [0], 1)[0]]
        last.append(recover(TABLE, [0], TABLE((1, 0)).bent(0, (0,)), [0]))
        self.assertEqual(last, [("order", (0, 2)), "blocked", ("new", (0, 0))])

    def test_touched(self):
        self.assertEqual([touched(TABLE, changed) for changed in [[0], [1], [0, 1]]], [(0, 2), (1, 2), (0, 1, 2)])
        for _, table, changed, _ in cases(301, 60):
            told = touched(table=table, changed=changed)
            pairs = enumerate(table.pieces)
            right = tuple(piece for piece, parts in pairs if any(part[i] for part in parts for i in changed))
            self.assertTrue(is_among(told, [right]))
            # Just these pieces can differ when the values of the changed indexes do.
            rows = {}
            for data in data_of(table.prime, table.size):
                rest = tuple(value for index, value in enumerate(data) if index not in changed)
                rows.setdefault(rest, []).append(parts_of(table, data))
            differ = {p for same in rows.values() for one in same for p in range(len(table)) if one[p] != same[0][p]}
            self.assertEqual(told, tuple(sorted(differ)))

    def test_nothing_is_touched(self):
        table = Table(3, 2, [[(0, 1)], [(0, 2), (0, 0)]])
        self.assertEqual(touched(table, [0]), ())
        self.assertEqual(remainders(table, [0]), [])
        self.assertEqual(safe_order(table, [0], 0)[0], "blocked")
        self.assertEqual(safe_order(Table(3, 1, [[(0,)]]), [0], 0), ("blocked", [((), (), (1, 0), (0, 1))]))
        self.assertEqual(write_reads(table, Prices([[1], [1, 1]], [1, 1], [0, 0]), [0]).paper(), ((), 0, ((),), ()))

    def test_mixed_stores_old_and_new_values(self):
        for _, table, changed, _ in cases(302, 40):
            for written in subsets(range(len(table))):
                told = mixed(table, changed, written)
                self.assertEqual((told.prime, told.size), (table.prime, table.size + len(changed)))
                self.assertEqual(told, mixed(table=table, changed=list(changed), written=list(written)))
                for data in data_of(table.prime, table.size + len(changed))[:: 3 if table.size > 2 else 1]:
                    old = data[: table.size]
                    new = with_changes(old, changed, data[table.size :])
                    self.assertEqual(list(told(data).pieces), mixture(table, old, new, written))

    def test_wishes(self):
        for _, table, changed, _ in cases(303, 30):
            old, new = old_wishes(table, changed), new_wishes(table=table, changed=list(changed))
            self.assertTrue(type(old) is list and type(new) is list)
            for data in data_of(table.prime, table.size + len(changed)):
                self.assertEqual(tuple(item(data) for item in old), data[: table.size])
                right = with_changes(data[: table.size], changed, data[table.size :])
                self.assertEqual(tuple(item(data) for item in new), right)
        told = old_wishes(TABLE, [1])
        told.clear()
        self.assertEqual([item.factors for item in old_wishes(TABLE, [1])], [(1, 0, 0), (0, 1, 0)])
        self.assertEqual([item.factors for item in new_wishes(TABLE, [1])], [(1, 0, 0), (0, 0, 1)])

    def test_limit(self):
        for prime, greatest in [(2, 6), (3, 6), (5, 5), (7, 4)]:
            for size in range(1, greatest + 1):
                table = Table(prime, size, [[(1,) * size]])
                for changed in subsets(range(size))[1:]:
                    calls = [lambda: mixed(table, changed, [0]), lambda: old_wishes(table, changed),
                             lambda: new_wishes(table, changed), lambda: unsafe(table, changed, [], 0, [0]),
                             lambda: safe_order(table, changed, 0, [0]), lambda: is_safe_order(table, changed, 0, None, [0]),
                             lambda: recover(table, changed, table((0,) * size), [0])]  # fmt: skip
                    for call in calls:
                        if size + len(changed) > greatest:
                            self.assertEqual(raised(LimitExceeded, call).limit, 4096)
                        else:
                            call()
                    touched(table, changed)
                    remainders(table, changed)
                    told = rewritten(table, changed, [1] * len(changed), table((0,) * size), [0])
                    self.assertEqual(told, table(with_changes((0,) * size, changed, [1] * len(changed))))


class ReadsTest(unittest.TestCase):
    def test_remainders(self):
        for _, table, changed, gone in cases(311, 90):
            told = remainders(table, changed, gone)
            self.assertEqual(told, remainders(table=table, changed=list(changed), gone=list(gone)))
            rows = []
            for piece, part in table:
                factors = table.pieces[piece][part]
                if piece not in gone and any(factors[index] for index in changed):
                    rest = tuple(0 if index in changed else factor for index, factor in enumerate(factors))
                    rows.append(((piece, part), rest))
            self.assertEqual([(spot, item.factors) for spot, item in told], rows)
            self.assertIs(type(told), list)
            if not gone:
                self.assertEqual(told, remainders(table, changed))

    def test_write_reads(self):
        many = [0, 0]
        for random, table, changed, gone in cases(312, 240):
            prices = random_prices(random, table)
            wishes = [item for _, item in remainders(table, changed, gone)] or [Sum(table.prime, (0,) * table.size)]
            try:
                reads = least(table, prices, table.spots_of(gone), wishes)
            except Lost as error:
                self.assertEqual(raised(Lost, write_reads, table, prices, changed, gone).blind, error.blind)
                many[0] += 1
                continue
            many[1] += 1
            self.assertEqual(write_reads(table, prices, changed, gone), reads)
            self.assertEqual(write_reads(table=table, cost=prices, changed=list(changed), gone=list(gone)), reads)
        self.assertGreater(min(many), 5)

    def test_write_reads_in_a_net(self):
        net = Net(PRICES, [0, 1, 2], [(0, 1, 5), (1, 2, 1)], 0)
        table = Table(2, 2, [[(1, 0)], [(0, 1)], [(0, 1)]])
        # One remainder, the sum of zeros, is had without reads.
        self.assertEqual(write_reads(table, net, [0]).paper(), ((), 0, ((),), ()))
        told = raised(InvalidWishes, write_reads, TABLE, net, [0]).value
        self.assertEqual([item.factors for item in told], [(0, 0), (0, 1)])
        self.assertIs(type(told), list)
        self.assertEqual(write_reads(TABLE, net, [0], [0]).spots, ((1, 0),))
        raised(InvalidWishes, write_reads, TABLE, net, [0], [1])

    def test_what_is_rewritten_is_what_the_new_data_store(self):
        for random, table, changed, gone in cases(313, 60):
            for data in data_of(table.prime, table.size)[::2]:
                stored = table(data).without(gone)
                remaining = [item(data) for _, item in remainders(table, changed, gone)] or [0]
                values = [random.randrange(table.prime) for _ in changed]
                new = Stored(parts_of(table, with_changes(data, changed, values))).without(gone)
                self.assertEqual(rewritten(table, changed, values, stored, remaining), new)
                told = rewritten(table=table, changed=list(changed), values=tuple(values), stored=stored,
                                 remaining=tuple(remaining))  # fmt: skip
                self.assertEqual(told, new)

    def test_wrong_parts_stay_where_nothing_changes(self):
        table = Table(3, 2, [[(1, 0), (0, 1)], [(0, 1)], [(1, 1)]])
        bent = table((1, 1)).bent(0, (2, 2)).bent(1, (0,))
        told = rewritten(table, [0], [2], bent, [0, 1])
        self.assertEqual(told.pieces, ((2, 2), (0,), (0,)))

    def test_wrong_arguments_of_rewritten(self):
        good = TABLE((1, 0))
        for values in NO_LISTS + [[], [2], [-1], [True], [None], [0, 0], ((0,),), ["0"]]:
            self.assertIs(raised(InvalidData, rewritten, TABLE, [0], values, None, None).value, values)
        for stored in ODD + [0, good.pieces, good.bent(0, (2,)), Stored([(0,)]), good.bent(0, (0, 0))]:
            self.assertIs(raised(InvalidStored, rewritten, TABLE, [0], [1], stored, None).value, stored)
        for remaining in NO_LISTS + [[], [0], [0, 2], [0, True], [0, None], [0, 0, 0], [-1, 0], [(0,), 0]]:
            self.assertIs(raised(InvalidData, rewritten, TABLE, [0], [1], good, remaining).value, remaining)
        for remaining in [[], [1], [0, 0], [False]]:
            empty = good.without([0, 2])
            self.assertIs(raised(InvalidData, rewritten, TABLE, [0], [1], empty, remaining).value, remaining)
        self.assertEqual(rewritten(TABLE, [0], [1], good.without([0, 2]), (0,)), good.without([0, 2]))


class MomentsTest(unittest.TestCase):
    def test_unsafe_against_all_sets_and_all_data(self):
        told = []
        for random, table, changed, gone in cases(321, 60):
            for most in random.sample(range(len(table) + 3), 2):
                plain = PlainWrite(table, changed, most, gone)
                for written in subsets(plain.order):
                    block = unsafe(table, changed, written, most, gone)
                    right = plain.block(written)
                    named = {"changed": list(changed), "written": list(written), "gone": list(gone)}
                    self.assertEqual(block, unsafe(table=table, most=most, **named))
                    told.append(block is None)
                    self.assertEqual(right is None, block is None)
                    if block is not None:
                        self.assertEqual(block[:2], right[:2])
                        self.assertTrue(plain.is_block(block))
        self.assertGreater(told.count(True), 100)
        self.assertGreater(told.count(False), 100)

    def test_pieces_that_are_not_touched_or_gone_may_be_named_as_written(self):
        self.assertEqual(unsafe(TABLE, [0], [0, 1], 1)[1:], unsafe(TABLE, [0], [0], 1)[1:])
        self.assertEqual(unsafe(TABLE, [0], [0, 1], 1)[0], (0, 1))
        self.assertEqual(unsafe(TABLE, [0], [0, 1, 2], 3)[1], (0, 1, 2))
        self.assertIsNone(unsafe(TABLE, [0], [2], 0, [2]))
        self.assertEqual(unsafe(TABLE, [0], [2], 0, [1, 2])[:2], ((2,), ()))

    def test_most_0_and_more_than_there_are_pieces(self):
        for _, table, changed, gone in cases(322, 30):
            there = [piece for piece in range(len(table)) if piece not in gone]
            for most in [len(there), len(there) + 1, 10**25]:
                self.assertEqual(unsafe(table, changed, (), most, gone)[1], tuple(there))
                self.assertEqual(safe_order(table, changed, most, gone)[0], "blocked")
            # With nothing written all old data can be had just where all data can be had.
            whole = table.space(table.spots_of(there)).is_whole
            self.assertEqual(unsafe(table, changed, (), 0, gone) is None, whole)

    def test_safe_orders_against_all_orders(self):
        told = []
        for random, table, changed, gone in cases(323, 120):
            most = random.choice([0, 0, 1, 1, 2])
            plain = PlainWrite(table, changed, most, gone)
            value = safe_order(table, changed, most, gone)
            self.assertEqual(value, safe_order(table=table, changed=list(changed), most=most, gone=list(gone)))
            orders = plain.safe_orders()
            told.append(len(orders) > 0)
            if orders:
                self.assertTrue(is_among(value, [("order", orders[0])]))
            else:
                self.assertTrue(type(value) is tuple and value[0] == "blocked" and type(value[1]) is list)
            self.assertTrue(plain.is_right(value))
            self.assertIs(is_safe_order(table, changed, most, value, gone), True)
            self.assertIs(is_safe_order(table, list(changed), most, value, gone=list(gone)), True)
        self.assertGreater(told.count(True), 30)
        self.assertGreater(told.count(False), 30)

    def test_altered_in_each_place(self):
        told = []
        for random, table, changed, gone in cases(324, 30):
            most = random.choice([0, 1, 1])
            plain = PlainWrite(table, changed, most, gone)
            word, value = safe_order(table, changed, most, gone)
            for kind in [tuple] if word == "order" else [tuple, list]:
                for other in variants((word, tuple(value))) + [(word, item) for item in variants(tuple(value))]:
                    if type(other) is tuple and len(other) == 2 and type(other[1]) is tuple and word == "blocked":
                        other = (other[0], kind(other[1]))
                    result = is_safe_order(table, changed, most, other, gone)
                    self.assertIs(result, plain.is_right(other), (table.pieces, changed, most, gone, other))
                    told.append(result)
        self.assertGreater(told.count(True), 50)
        self.assertGreater(told.count(False), 1000)

    def test_all_orders_and_all_sets_of_blocks(self):
        told = []
        for random, table, changed, gone in cases(325, 60):
            most = random.choice([0, 1, 1])
            plain = PlainWrite(table, changed, most, gone)
            for order in product(range(len(table)), repeat=min(3, len(plain.order))):
                value = ("order", order)
                self.assertIs(is_safe_order(table, changed, most, value, gone), plain.is_right(value))
            blocks = [plain.block(written) for written in subsets(plain.order)]
            blocks = [block for block in blocks if block is not None]
            for _ in range(8):
                value = ("blocked", random.sample(blocks, random.randint(0, len(blocks))))
                told.append(is_safe_order(table, changed, most, value, gone))
                self.assertIs(told[-1], plain.is_right(value))
            self.assertIs(is_safe_order(table, changed, most, ("blocked", blocks * 2), gone), not plain.safe_orders())
        self.assertGreater(told.count(True), 20)
        self.assertGreater(told.count(False), 20)

    def test_blocks_of_moments_that_are_none(self):
        block = unsafe(TABLE, [0], [0, 1], 1)
        value = ("blocked", [*safe_order(TABLE, [0], 1)[1], block])
        self.assertIs(is_safe_order(TABLE, [0], 1, value), False)
        self.assertIs(is_safe_order(TABLE, [0], 1, ("blocked", value[1][:-1])), True)
        # The same moment once more, but told by a list, or by True for 1.
        first = value[1][0]
        for written in [list(first[0]), first[0] + first[0], tuple(map(bool, first[0])), None]:
            doubled = [*value[1][:-1], (written, *first[1:])]
            self.assertIs(is_safe_order(TABLE, [0], 1, ("blocked", doubled)), False)
        self.assertIs(is_safe_order(TABLE, [0], 1, ("blocked", [*value[1][:-1], first])), True)

    def test_any_object(self):
        for value in ODD + [0, [], (), ("order",), ["order", (0, 2)], ("order", (0, 2), 0), ("orders", (0, 2))]:
            self.assertIs(is_safe_order(TABLE, [0], 0, value), False)
            self.assertIs(is_safe_order(TABLE, [0], 0, (value, (0, 2))), False)
            self.assertIs(is_safe_order(TABLE, [0], 0, ("order", value)), False)
            self.assertIs(is_safe_order(TABLE, [0], 0, ("blocked", value)), False)
            self.assertIs(is_safe_order(TABLE, [0], 0, ("blocked", [value])), False)

    def test_errors_in_order(self):
        wide = Table(2, 4, [[(1, 0, 0, 0)]])
        three = [0, 1, 2]
        for changed in WRONG_INDEXES:
            for call in [lambda: touched(TABLE, changed), lambda: mixed(TABLE, changed, None), lambda: old_wishes(TABLE, changed),
                         lambda: new_wishes(TABLE, changed), lambda: remainders(TABLE, changed, None),
                         lambda: write_reads(TABLE, None, changed, None), lambda: unsafe(TABLE, changed, None, None, None),
                         lambda: rewritten(TABLE, changed, None, None, None), lambda: safe_order(TABLE, changed, None, None),
                         lambda: is_safe_order(TABLE, changed, None, None, None), lambda: recover(TABLE, changed, None, None)]:  # fmt: skip
                self.assertIs(raised(InvalidChange, call).value, changed)
        for written in WRONG_PIECES:
            self.assertIs(raised(InvalidPieces, mixed, TABLE, [0], written).value, written)
            self.assertIs(raised(InvalidPieces, mixed, wide, three, written).value, written)
            self.assertIs(raised(InvalidPieces, unsafe, wide, three, written, None, None).value, written)
            self.assertIs(raised(InvalidPieces, recover, wide, three, wide((0,) * 4), written).value, written)
        for gone in WRONG_PIECES:
            self.assertIs(raised(InvalidPieces, remainders, TABLE, [0], gone).value, gone)
            self.assertIs(raised(InvalidPieces, write_reads, TABLE, PRICES, [0], gone).value, gone)
            self.assertIs(raised(InvalidPieces, unsafe, TABLE, [0], [], None, gone).value, gone)
            self.assertIs(raised(InvalidPieces, safe_order, TABLE, [0], None, gone).value, gone)
            self.assertIs(raised(InvalidPieces, is_safe_order, TABLE, [0], None, None, gone).value, gone)
            self.assertEqual(raised(LimitExceeded, unsafe, wide, three, [], None, gone).limit, 4096)
            self.assertEqual(raised(LimitExceeded, safe_order, wide, three, None, gone).limit, 4096)
            self.assertEqual(raised(LimitExceeded, is_safe_order, wide, three, None, None, gone).limit, 4096)
        for most in NO_INTEGERS + [-1, -(10**25)]:
            self.assertIs(raised(InvalidNumber, unsafe, TABLE, [0], [], most).value, most)
            self.assertIs(raised(InvalidNumber, safe_order, TABLE, [0], most).value, most)
            self.assertIs(raised(InvalidNumber, is_safe_order, TABLE, [0], most, None).value, most)
        for cost in ODD + [0, TABLE, Prices([[1]] * 2, [1] * 2, [1] * 2)]:
            self.assertIs(raised(InvalidCost, write_reads, TABLE, cost, [0], None).value, cost)

    def test_greatest_tables_within_seconds(self):
        random = Random(326)
        for prime, size, many in [(2, 5, 1), (2, 3, 3), (3, 5, 1), (3, 3, 3), (5, 4, 1), (7, 3, 1), (5, 3, 2)]:
            for counts in [[2, 2, 2, 2, 1, 1], [1] * 6]:
                table = random_table(random, prime, size, counts)
                for most in [0, 1, 2, 3]:
                    begun = time.monotonic()
                    changed = list(range(many))
                    value = safe_order(table, changed, most)
                    self.assertTrue(is_safe_order(table, changed, most, value))
                    self.assertLess(time.monotonic() - begun, 10)


class RecoverTest(unittest.TestCase):
    def fitting(self, table, changed, stored, written):
        """Return the pairs (old, new) of data for which all that is there is stored, by going through all of them."""
        pairs = []
        for data in data_of(table.prime, table.size + len(changed)):
            old = data[: table.size]
            new = with_changes(old, changed, data[table.size :])
            made = mixture(table, old, new, written)
            if all(values is None or values == made[piece] for piece, values in enumerate(stored.pieces)):
                pairs.append((old, new))
        return pairs

    def check(self, table, changed, stored, written):
        """Check what is recovered by all data of the mixed table; return the word, or "unsure"."""
        pairs = self.fitting(table, changed, stored, written)
        if not pairs:
            found = raised(Unsure, recover, table, changed, stored, written).found
            self.assertTrue(is_clash(mixed(table, changed, written), stored, found))
            self.assertIsNotNone(clash(mixed(table, changed, written), stored))
            return "unsure"
        told = recover(table, changed, stored, written)
        old, new = {old for old, _ in pairs}, {new for _, new in pairs}
        if len(new) == 1:
            self.assertTrue(is_among(told, [("new", *new)]))
        elif len(old) == 1:
            self.assertTrue(is_among(told, [("old", *old)]))
        else:
            self.assertEqual(told[0], "none")
            plain = PlainWrite(table, changed, 0, stored.gone)
            olds, news = plain.blinds(written, plain.there)
            self.assertTrue(type(told[1]) is tuple and is_among(told[1][0], olds) and is_among(told[1][1], news))
        return told[0]

    def test_against_all_data(self):
        told = []
        for random, table, changed, gone in cases(331, 240):
            old = tuple(random.randrange(table.prime) for _ in range(table.size))
            new = with_changes(old, changed, [random.randrange(table.prime) for _ in changed])
            written = random.choice(subsets(range(len(table))))
            stored = Stored(mixture(table, old, new, written)).without(gone)
            if random.random() < 0.2:
                piece = random.randrange(len(table))
                stored = stored.bent(piece, [random.randrange(table.prime) for _ in table.pieces[piece]])
            told.append(self.check(table, changed, stored, written))
            self.assertEqual(told[-1] == "unsure", self.check(table, list(changed), stored, list(written)) == "unsure")
        self.assertGreater(min(told.count(word) for word in ["new", "old", "none", "unsure"]), 8)

    def test_each_moment_of_a_safe_order(self):
        many = 0
        for random, table, changed, gone in cases(332, 150):
            most = random.choice([0, 1])
            word, order = safe_order(table, changed, most, gone)
            if word != "order":
                continue
            old = tuple(random.randrange(table.prime) for _ in range(table.size))
            new = with_changes(old, changed, [random.randrange(table.prime) for _ in changed])
            there = [piece for piece in range(len(table)) if piece not in gone]
            for behind in range(len(order) + 1):
                for going in [group for group in subsets(there) if len(group) <= most]:
                    written = tuple(sorted(order[:behind]))
                    stored = Stored(mixture(table, old, new, written)).without(sorted([*gone, *going]))
                    self.assertIn(recover(table, changed, stored, written), [("new", new), ("old", old)])
                    many += 1
        self.assertGreater(many, 200)

    def test_nothing_and_everything_written(self):
        for old in data_of(2, 2):
            for values in data_of(2, 2):
                self.assertEqual(recover(TABLE, [0, 1], TABLE(old), []), ("old", old))
                self.assertEqual(recover(TABLE, [0, 1], TABLE(values), [0, 1, 2]), ("new", values))
                new = with_changes(old, [0], values[:1])
                self.assertEqual(recover(TABLE, [0], Stored(mixture(TABLE, old, new, [0, 2])), (0, 2)), ("new", new))
        self.assertEqual(recover(TABLE, [0], TABLE((0, 0)).without([0, 1, 2]), [])[0], "none")

    def test_errors_in_order(self):
        good = TABLE((1, 0))
        for stored in ODD + [0, good.pieces, good.bent(0, (2,)), Stored([(0,)])]:
            self.assertIs(raised(InvalidStored, recover, TABLE, [0], stored, None).value, stored)
        wide = Table(2, 4, [[(1, 0, 0, 0)]] * 2)
        crossed = Stored([(0,), (1,)])
        self.assertEqual(raised(LimitExceeded, recover, wide, [0, 1, 2], crossed, []).limit, 4096)
        found = raised(Unsure, recover, wide, [0, 1], crossed, []).found
        self.assertTrue(is_clash(mixed(wide, [0, 1], []), crossed, found))


class MixtureTest(unittest.TestCase):
    def test_what_can_be_had_of_a_mixture_is_the_same_for_data_in_another_order(self):
        for random, table, changed, gone in cases(341, 60):
            order = random.sample(range(table.size), table.size)
            turned = Table(table.prime, table.size, [[[row[k] for k in order] for row in parts] for parts in table.pieces])
            moved = sorted(order.index(index) for index in changed)
            most = random.choice([0, 1])
            told = [safe_order(one, where, most, gone)[0] for one, where in [(table, changed), (turned, moved)]]
            self.assertEqual(told[0], told[1])
            self.assertEqual(touched(table, changed), touched(turned, moved))

    def test_values_of_remainders_and_products(self):
        for _, table, changed, _ in cases(342, 20):
            for (piece, part), item in remainders(table, changed):
                factors = table.pieces[piece][part]
                for data in data_of(table.prime, table.size):
                    products = sum(factors[index] * data[index] for index in changed)
                    self.assertEqual((item(data) + products) % table.prime, value_of(table.prime, factors, data))


if __name__ == "__main__":
    unittest.main()
