import time
import unittest
from random import Random

from leastreads.costs import Prices
from leastreads.errors import (
    Halted, InvalidChange, InvalidCost, InvalidData, InvalidName, InvalidNumber, InvalidPieces, InvalidPlacing,
    InvalidStored, InvalidTable, LimitExceeded, Lost, NotHalted, NothingToUndo, UnknownName, Unsafe, Unsure,
)  # fmt: skip
from leastreads.nets import Net
from leastreads.placings import Placing
from leastreads.store import Store
from leastreads.stored import Stored
from leastreads.tables import Table
from leastreads.writes import is_safe_order, mixed, new_wishes, safe_order
from net_support import is_zero_at
from support import NO_INTEGERS, NO_LISTS, ODD, data_of, raised, random_table
from test_wrong import is_clash

TABLE = Table(3, 2, [[(1, 0)], [(0, 1)], [(1, 1)], [(1, 2)]])
PRICES = Prices([[1], [1], [1], [1]], [1, 1, 1, 1], [0, 0, 0, 0])
# Without safe orders for 1, and with one for 0.
BARE = Table(2, 2, [[(1, 0)], [(0, 1)], [(1, 1)]])
BARE_PRICES = Prices([[1], [1], [1]], [1, 1, 1], [0, 0, 0])


def filled():
    """Return a store with two objects."""
    store = Store(TABLE, PRICES, 5)
    store.put("one", [(2, 1), (0, 0)], [0, 1, 2, 3])
    store.put("two", [(1, 1)], [0, 0, 1, 4])
    return store


def crashed(crash=1, table=BARE, prices=BARE_PRICES):
    """Return a store that a write of 0 has halted."""
    store = Store(table, prices, 4)
    store.put("one", [(1,) * table.size, (0,) * table.size], [0, 1, 2])
    store.write("one", 0, [(0, 0)], crash)
    return store


def lost():
    """Return a store with a lost row and a sound one in one object."""
    store = crashed(1)
    store.loss(1)
    store.recover()
    return store


class ExampleTest(unittest.TestCase):
    def test_example(self):
        store = Store(TABLE, PRICES, 5)
        store.put("one", [(2, 1)], [0, 1, 2, 3])
        store.loss(1)
        first = [store.read("one", 0), store.danger("one")[:2], store.queue(), store.write("one", 0, [(0, 1)])]
        first.append(store.rebuild("one", 1, 4))
        store.spoil("one", 0, 3, (2,))
        last = [store.scrub("one"), store.mended("one", 0), store.heal("one", 0), store.checked("one", 0)]
        self.assertEqual(first, [((2, 1), 2), (2, (0, 2)), [(2, "one")], 2, 2])
        self.assertEqual(last + [len(store.history())], [[0], (1, 1), (3,), (1, 1), 6])


class NewStoreTest(unittest.TestCase):
    def test_properties(self):
        store = Store(table=TABLE, cost=PRICES, machines=5)
        self.assertEqual((store.table, store.cost, store.machines), (TABLE, PRICES, 5))
        self.assertEqual((store.broken, store.halted, len(store), store.names(), store.history()), ((), None, 0, [], []))
        for name in ["table", "cost", "machines", "broken", "halted"]:
            self.assertRaises(AttributeError, setattr, store, name, 1)

    def test_errors_in_order(self):
        self.assertIsNone(raised(InvalidTable, Store, Table(2, 2, [[(1, 0)]]), None, None).place)
        for cost in ODD + [0, TABLE, BARE_PRICES, Net(PRICES, [0] * 4, [], 0)]:
            self.assertIs(raised(InvalidCost, Store, TABLE, cost, None).value, cost)
        for machines in NO_INTEGERS + [0, 7, -1, 10**25]:
            self.assertIs(raised(InvalidNumber, Store, TABLE, PRICES, machines).value, machines)
        for machines in range(1, 7):
            self.assertEqual(Store(TABLE, PRICES, machines).machines, machines)

    def test_names_and_items(self):
        store = filled()
        self.assertEqual((len(store), store.names()), (2, ["one", "two"]))
        for name in ODD + [0, [], "three", "One", ["one"], ("one",), "one "]:
            self.assertIs(name in store, False)
            self.assertIs(raised(UnknownName, store.__getitem__, name).name, name)
        self.assertIs("one" in store, True)
        self.assertEqual(store["two"], (Placing(5, [0, 0, 1, 4]), (TABLE((1, 1)),)))
        self.assertEqual(store["one"][1], (TABLE((2, 1)), TABLE((0, 0))))
        self.assertRaises(TypeError, iter, store)


class PutTest(unittest.TestCase):
    def test_anew_in_the_place_of_one(self):
        store = filled()
        store.put(name="one", rows=[[1, 2]], where=(4, 4, 4, 4))
        self.assertEqual(store["one"], (Placing(5, [4] * 4), (TABLE((1, 2)),)))
        self.assertEqual((store.names(), store.danger("one")[:2]), (["one", "two"], (1, (4,))))
        self.assertEqual(store.history()[-1], ("put", "one", ((1, 2),), (4, 4, 4, 4)))

    def test_no_reference_is_kept(self):
        store, rows, where = filled(), [[1, 2], [0, 1]], [0, 1, 2, 3]
        store.put("new", rows, where)
        rows[0][0], where[0] = 0, 4
        rows.pop()
        self.assertEqual(store["new"], (Placing(5, [0, 1, 2, 3]), (TABLE((1, 2)), TABLE((0, 1)))))
        self.assertEqual(store.history()[-1], ("put", "new", ((1, 2), (0, 1)), (0, 1, 2, 3)))

    def test_names(self):
        store = Store(TABLE, PRICES, 1)
        for name in ["a", "z", "abcdefgh", "zzzzzzzz"]:
            store.put(name, [(0, 0)], [0] * 4)
        self.assertEqual(store.names(), ["a", "abcdefgh", "z", "zzzzzzzz"])
        for name in ODD[:4] + ODD[6:] + [0, [], "abcdefghi", "A", "a1", "a b", "a\n", " a", "-", "a_b", "aA"]:
            self.assertIs(raised(InvalidName, store.put, name, None, None).value, name)

    def test_one_to_four_rows(self):
        store = filled()
        for many in range(1, 5):
            store.put("new", [(1, 1)] * many, [0, 1, 2, 3])
            self.assertEqual(len(store["new"][1]), many)
        wrong = [[], (), [(1, 1)] * 5, [(1, 3)], [(1,)], [(1, 1, 1)], [(1, True)], [None], [(1, 1), "11"], [1, 1], [(1, -1)]]
        for rows in NO_LISTS + wrong:
            self.assertIs(raised(InvalidData, store.put, "new", rows, None).value, rows)

    def test_wrong_placings(self):
        store = filled()
        store.loss(2)
        wrong = [[], [0, 1, 3], [0] * 5, [0, 1, 2, 3], [0, 1, 5, 3], [-1, 0, 0, 0], [None, 0, 0, 0], [0, 0, 0, True], ["0", 0, 0, 0]]
        for where in NO_LISTS + wrong:
            self.assertIs(raised(InvalidPlacing, store.put, "new", [(1, 1)], where).value, where)
        store.renew(2)
        store.put("new", [(1, 1)], [0, 1, 2, 3])

    def test_a_ninth_object(self):
        store = Store(TABLE, PRICES, 1)
        for name in "abcdefgh":
            store.put(name, [(0, 0)], [0] * 4)
        self.assertEqual(raised(LimitExceeded, store.put, "i", [(0, 0)], [0] * 4).limit, 8)
        raised(InvalidPlacing, store.put, "i", [(0, 0)], [1] * 4)
        store.put("h", [(1, 0)], [0] * 4)
        store.drop("a")
        store.put("i", [(0, 0)], [0] * 4)
        self.assertEqual(store.names(), list("bcdefghi"))


class ReadingTest(unittest.TestCase):
    def test_read_trusts_what_it_reads(self):
        store = filled()
        store.spoil("one", 0, 0, [0])
        self.assertEqual(store.read("one", 0), ((0, 1), 2))
        found = raised(Unsure, store.checked, "one", 0).found
        self.assertTrue(is_clash(TABLE, store["one"][1][0], found))
        self.assertEqual((store.mended("one", 0), store.scrub("one")), ((2, 1), [0]))
        self.assertEqual((store.checked("one", 1), store.scrub("two")), ((0, 0), []))
        store.spoil("one", 1, 1, (1,))
        self.assertEqual(store.scrub("one"), [0, 1])

    def test_two_explanations(self):
        store = filled()
        store.loss(3)
        store.spoil("one", 0, 0, [0])
        found = raised(Unsure, store.mended, "one", 0).found
        self.assertEqual(found, (((0,), (2, 1)), ((1,), (0, 0))))
        self.assertEqual(raised(Unsure, store.heal, "one", 0).found, found)
        self.assertEqual(len(store.history()), 4)

    def test_lost_if_the_units_cannot_be_had(self):
        store = filled()
        for machine in [0, 1]:
            store.loss(machine)
        self.assertEqual(store.read("one", 0), ((2, 1), 2))
        self.assertEqual(raised(Lost, store.read, "two", 0).blind, (1, 1))
        store.loss(2)
        for word in ["read", "checked", "mended", "heal"]:
            blind = raised(Lost, getattr(store, word), "one", 0).blind
            self.assertTrue(any(blind) and is_zero_at(TABLE, [(3, 0)], blind))
        self.assertEqual(store.scrub("one"), [])

    def test_wrong_names_and_rows(self):
        store = filled()
        calls = [lambda name, row: store.read(name, row), lambda name, row: store.checked(name=name, row=row),
                 lambda name, row: store.mended(name, row), lambda name, row: store.heal(name, row),
                 lambda name, row: store.write(name, row, None), lambda name, row: store.spoil(name, row, None, None)]  # fmt: skip
        for call in calls:
            for name in ODD + [0, [], "three"]:
                self.assertIs(raised(UnknownName, call, name, None).name, name)
            for row in NO_INTEGERS + [-1, 2, 10**25]:
                self.assertIs(raised(InvalidNumber, call, "one", row).value, row)
        for name in ODD + [0, [], "three"]:
            for call in [store.drop, store.scrub, store.danger]:
                self.assertIs(raised(UnknownName, call, name).name, name)
            for call in [store.rebuild, store.shift]:
                self.assertIs(raised(UnknownName, call, name, None, None).name, name)


class WriteTest(unittest.TestCase):
    def test_each_change(self):
        for old in data_of(3, 2):
            for new in data_of(3, 2):
                store = Store(TABLE, PRICES, 4)
                store.put("one", [(0, 0), old], [0, 1, 2, 3])
                changes = [(index, value) for index, value in enumerate(new)]
                store.write(name="one", row=1, changes=changes[:1])
                self.assertEqual(store["one"][1], (TABLE((0, 0)), TABLE((new[0], old[1]))))
                store.write("one", 1, tuple(changes), crash=None)
                self.assertEqual(store["one"][1], (TABLE((0, 0)), TABLE(new)))
                self.assertEqual(store.history()[-1], ("write", "one", 1, tuple(changes), None))

    def test_wrong_changes(self):
        store = filled()
        wrong = [[], (), [(1, 0), (0, 0)], [(0, 0), (0, 1)], [(2, 0)], [(-1, 0)], [(0, 3)], [(0, -1)], [(0, True)], [(False, 0)],
                 [[0, 1]], [(0,)], [(0, 1, 2)], [None], [0], [(0, "1")], [(0, 0), (1, 0), (2, 0)], [(0, None)], [(0, 1), (1, 3)],
                 [(0, 3), (1, 1)], [(0, 1), [1, 1]], [(0, 1), None]]  # fmt: skip
        for changes in NO_LISTS + wrong:
            self.assertIs(raised(InvalidChange, store.write, "one", 0, changes, -1).value, changes)

    def test_wrong_crashes(self):
        store = filled()
        for crash in NO_INTEGERS[1:] + [-1, 4, 10**25]:
            self.assertIs(raised(InvalidNumber, store.write, "one", 0, [(0, 1)], crash).value, crash)
        store.loss(0)
        self.assertEqual(raised(InvalidNumber, store.write, "one", 0, [(0, 1)], 3).value, 3)
        self.assertEqual(store.write("one", 0, [(0, 1)], 2), 1)
        self.assertEqual(store.halted, ("one", 0))

    def test_errors_in_order(self):
        table = Table(3, 4, [[(1, 0, 0, 0), (0, 1, 0, 0)], [(0, 0, 1, 0), (0, 0, 0, 1)], [(1, 1, 1, 1)]])
        store = Store(table, Prices([[1, 1], [1, 1], [1]], [2, 2, 1], [0, 0, 0]), 3)
        store.put("one", [(1, 1, 1, 1)], [0, 1, 2])
        three = [(0, 0), (1, 0), (2, 0)]
        self.assertEqual(raised(LimitExceeded, store.write, "one", 0, three).limit, 4096)
        store.spoil("one", 0, 2, (0,))
        found = raised(Unsure, store.write, "one", 0, three).found
        self.assertTrue(is_clash(table, store["one"][1][0], found))
        raised(InvalidNumber, store.write, "one", 0, three, 4)
        store.undo()
        store.loss(1)
        self.assertEqual(raised(LimitExceeded, store.write, "one", 0, three).limit, 4096)
        # The remainder of piece 2 is the sum of all values but the third one.
        self.assertEqual(raised(Lost, store.write, "one", 0, [(2, 0)]).blind, (0, 0, 1, 2))
        raised(Unsafe, store.write, "one", 0, [(0, 0)])

    def test_no_safe_order(self):
        store = Store(BARE, BARE_PRICES, 3)
        store.put("one", [(1, 1)], [0, 1, 2])
        store.loss(0)
        store.loss(2)
        # Nothing that is there is touched, but neither old nor new data can be had.
        blocks = raised(Unsafe, store.write, "one", 0, [(0, 0)]).blocks
        self.assertTrue(is_safe_order(BARE, [0], 0, ("blocked", blocks), [0, 2]))
        self.assertIs(type(blocks), list)
        self.assertEqual(len(store.history()), 3)
        raised(InvalidNumber, store.write, "one", 0, [(0, 0)], 1)

    def test_the_order_for_1_goes_ahead_of_that_for_0(self):
        # Tables for which the first order for 1 begins with another piece than the first one for 0.
        random = Random(401)
        seen = 0
        while seen < 5:
            table = random_table(random, 2, 2, [1, 1, 1, 1, 1])
            if not table.is_whole:
                continue
            orders = [first_order(table, most) for most in (1, 0)]
            if orders[0] is None or orders[0][:1] == orders[1][:1]:
                continue
            seen += 1
            store = Store(table, Prices([[1]] * 5, [1] * 5, [0] * 5), 5)
            store.put("one", [(1, 1)], list(range(5)))
            for crash in range(len(orders[0]) + 1):
                with store.trial():
                    store.write("one", 0, [(0, 0)], crash)
                    right = table((1, 1))
                    for piece in orders[0][:crash]:
                        right = right.bent(piece, table((0, 1)).pieces[piece])
                    self.assertEqual(store["one"][1][0], right)


def first_order(table, most):
    """Return the first safe order for most, or None."""
    word, told = safe_order(table, [0], most)
    return told if word == "order" else None


class CrashTest(unittest.TestCase):
    def test_halted(self):
        store = crashed()
        self.assertEqual(store.halted, ("one", 0))
        calls = [lambda: store.put("one", None, None), lambda: store.put(None, None, None), lambda: store.drop("nothing"),
                 lambda: store.read("one", 1), lambda: store.checked("one", 1), lambda: store.mended(None, None),
                 lambda: store.scrub("one"), lambda: store.write("one", 9, None), lambda: store.heal("one", 0),
                 lambda: store.rebuild("one", None, None), lambda: store.shift(None, None, None), lambda: store.danger("one"),
                 store.queue]  # fmt: skip
        for call in calls:
            self.assertEqual(raised(Halted, call).name, "one")
        before = store.history()
        self.assertEqual((store.names(), "one" in store, len(store), len(store["one"][1])), (["one"], True, 1, 2))
        store.spoil("one", 1, 0, [1])
        store.loss(3)
        store.renew(3)
        self.assertEqual(len(store.history()), len(before) + 3)
        self.assertEqual(store.halted, ("one", 0))

    def test_behind_each_number_of_pieces(self):
        for crash, word, data in [(0, "old", (1, 1)), (1, "new", (0, 1)), (2, "new", (0, 1))]:
            store = crashed(crash)
            self.assertEqual(store.recover(), word)
            self.assertEqual((store.halted, store.checked("one", 0), store.checked("one", 1)), (None, data, (0, 0)))
            self.assertEqual(store.history()[-1], ("recover", False))
            self.assertEqual(store.scrub("one"), [])

    def test_recover_without_a_crash(self):
        store = filled()
        raised(NotHalted, store.recover)
        raised(NotHalted, store.recover, mending=True)

    def test_a_clash_behind_a_crash(self):
        store = Store(TABLE, PRICES, 4)
        store.put("one", [(1, 1)], [0, 1, 2, 3])
        store.write("one", 0, [(0, 0)], 1)
        store.spoil("one", 0, 1, [2])
        for _ in range(2):
            found = raised(Unsure, store.recover).found
            written = safe_order(TABLE, [0], 1)[1][:1]
            self.assertTrue(is_clash(mixed(TABLE, [0], written), store["one"][1][0], found))
            self.assertEqual(store.halted, ("one", 0))

    def test_mending(self):
        table = Table(5, 2, [[(1, 0)], [(0, 1)], [(1, 1)], [(1, 2)], [(1, 3)], [(1, 4)]])
        for crash in range(6):
            for piece in range(6):
                store = Store(table, Prices([[1]] * 6, [1] * 6, [0] * 6), 6)
                store.put("one", [(4, 1)], list(range(6)))
                store.write("one", 0, [(1, 3)], crash)
                store.spoil("one", 0, piece, [(store["one"][1][0][piece, 0] + 1) % 5])
                try:
                    word = store.recover(True)
                except Unsure:
                    self.assertEqual(store.halted, ("one", 0))
                    continue
                self.assertEqual(store.history()[-1], ("recover", True))
                told = store.checked("one", 0)
                if crash in (0, 5):
                    self.assertEqual(told, {"new": (4, 3), "old": (4, 1)}[word])

    def test_a_lost_row(self):
        store = crashed(1)
        store.loss(1)
        self.assertEqual(store.recover(), "none")
        self.assertIsNone(store.halted)
        self.assertEqual(len(store["one"][1]), 2)
        written = [0]
        table = mixed(BARE, [0], written)
        for word in ["read", "checked", "mended", "heal"]:
            blind = raised(Lost, getattr(store, word), "one", 0).blind
            self.assertTrue(is_zero_at(table, [(0, 0), (2, 0)], blind))
            self.assertTrue(any(item(blind) for item in new_wishes(BARE, [0])))
        self.assertEqual(raised(Lost, store.write, "one", 0, [(1, 0)], 0).blind, blind)
        raised(InvalidNumber, store.write, "one", 0, [(1, 0)], 2)
        self.assertEqual(store.scrub("one"), [])
        self.assertEqual(store.read("one", 1), ((0, 0), 2))

    def test_lost_rows_count_for_nothing(self):
        store = lost()
        self.assertEqual((store.danger("one")[:2], store.queue()), ((1, (0,)), [(1, "one")]))
        self.assertEqual(store.rebuild("one", 1, 3), 2)
        self.assertEqual([row.gone for row in store["one"][1]], [(1,), ()])
        self.assertEqual(store.danger("one")[0], 2)
        self.assertEqual(store.shift("one", 1, 2), 1)
        self.assertEqual([row.gone for row in store["one"][1]], [(1,), ()])
        self.assertEqual((store["one"][0].where, store.queue()), ((0, 2, 2), []))
        store.loss(2)
        self.assertEqual([row.gone for row in store["one"][1]], [(1, 2), (1, 2)])
        store.spoil("one", 0, 0, [1])
        self.assertEqual(raised(InvalidPieces, store.spoil, "one", 0, 1, [1]).value, 1)

    def test_a_lost_row_is_put_anew_or_dropped(self):
        store = lost()
        store.put("one", [(1, 0), (1, 1)], [0, 2, 3])
        self.assertEqual(store.checked("one", 0), (1, 0))
        store = lost()
        store.drop("one")
        self.assertEqual((store.names(), store.queue()), ([], []))

    def test_only_lost_rows_cost_nothing(self):
        store = Store(BARE, BARE_PRICES, 4)
        store.put("one", [(1, 1)], [0, 1, 2])
        store.write("one", 0, [(0, 0)], 1)
        store.loss(1)
        store.recover()
        self.assertEqual(store.rebuild("one", 1, 3), 0)
        self.assertEqual(store["one"][1][0].gone, (1,))
        self.assertEqual(store["one"][0].where, (0, 3, 2))


class MachinesTest(unittest.TestCase):
    def test_losses_and_renewals(self):
        store = filled()
        store.loss(machine=0)
        self.assertEqual((store.broken, store["one"][0].where), ((0,), (None, 1, 2, 3)))
        self.assertEqual(store["two"][0].where, (None, None, 1, 4))
        self.assertEqual([row.gone for row in store["one"][1]], [(0,), (0,)])
        store.loss(3)
        store.loss(2)
        self.assertEqual(store.broken, (0, 2, 3))
        store.renew(machine=2)
        self.assertEqual((store.broken, store["one"][0].where), ((0, 3), (None, 1, None, None)))
        for machine in NO_INTEGERS + [-1, 5, 0, 3]:
            self.assertIs(raised(InvalidNumber, store.loss, machine).value, machine)
        for machine in NO_INTEGERS + [-1, 5, 1, 2]:
            self.assertIs(raised(InvalidNumber, store.renew, machine).value, machine)

    def test_danger_and_queue(self):
        store = filled()
        self.assertEqual(store.danger("one"), (3, (0, 1, 2), (1, 1)))
        self.assertEqual(store.danger("two"), (2, (0, 1), (1, 1)))
        self.assertEqual(store.queue(), [])
        store.loss(4)
        self.assertEqual((store.queue(), store.danger("two")), ([(1, "two")], (1, (0,), (1, 2))))
        store.loss(2)
        self.assertEqual(store.queue(), [(1, "two"), (2, "one")])
        store.loss(0)
        self.assertEqual((store.danger("two"), store.queue()), ((0, (), (1, 2)), [(0, "two"), (1, "one")]))
        for machine in [1, 3]:
            store.loss(machine)
        self.assertEqual((store.danger("one"), store.broken), ((0, (), (0, 1)), (0, 1, 2, 3, 4)))

    def test_rebuild(self):
        store = filled()
        store.loss(1)
        self.assertEqual(store.rebuild(name="one", piece=1, machine=4), 4)
        self.assertEqual((store["one"][0].where, store["one"][1]), ((0, 4, 2, 3), (TABLE((2, 1)), TABLE((0, 0)))))
        for piece in NO_INTEGERS + [-1, 4, 0, 1]:
            self.assertIs(raised(InvalidPieces, store.rebuild, "one", piece, None).value, piece)
        for machine in NO_INTEGERS + [-1, 5, 1]:
            self.assertIs(raised(InvalidNumber, store.rebuild, "two", 2, machine).value, machine)
        store.loss(0)
        self.assertEqual(raised(Lost, store.rebuild, "two", 0, 2).blind, (1, 1))

    def test_shift(self):
        store = filled()
        self.assertEqual(store.shift(name="one", piece=1, machine=4), 2)
        self.assertEqual(store["one"][0].where, (0, 4, 2, 3))
        store.loss(1)
        for piece in NO_INTEGERS + [-1, 4]:
            self.assertIs(raised(InvalidPieces, store.shift, "one", piece, None).value, piece)
        self.assertEqual(raised(InvalidPieces, store.shift, "two", 2, 0).value, 2)
        for machine in NO_INTEGERS + [-1, 5, 1, 0]:
            self.assertIs(raised(InvalidNumber, store.shift, "one", 0, machine).value, machine)

    def test_what_is_read_is_trusted(self):
        dear = Prices([[9], [1], [1], [1]], [9, 1, 1, 1], [0, 0, 0, 0])
        store = Store(TABLE, dear, 5)
        store.put("one", [(2, 1)], [0, 1, 2, 3])
        store.spoil("one", 0, 1, [0])
        # Piece 0 is dearer to read than to make anew of pieces 1 and 2, of which one is wrong.
        self.assertEqual(store.shift("one", 0, 4), 2)
        self.assertEqual(store["one"][1][0].pieces, ((0,), (0,), (0,), (1,)))
        store = Store(TABLE, PRICES, 5)
        store.put("one", [(2, 1)], [0, 1, 2, 3])
        store.spoil("one", 0, 0, [1])
        store.loss(1)
        store.rebuild("one", 1, 4)
        self.assertEqual(store["one"][1][0].pieces, ((1,), (2,), (0,), (1,)))

    def test_spoil_and_heal(self):
        store = filled()
        for piece in NO_INTEGERS + [-1, 4]:
            self.assertIs(raised(InvalidPieces, store.spoil, "one", 0, piece, None).value, piece)
        for values in NO_LISTS + [[], [3], [-1], [True], [None], [0, 0], ["0"]]:
            self.assertIs(raised(InvalidStored, store.spoil, "one", 0, 0, values).value, values)
        wide = Store(Table(3, 2, [[(1, 0), (0, 1)], [(1, 1)]]), Prices([[1, 1], [1]], [2, 1], [0, 0]), 2)
        wide.put("one", [(1, 1)], [0, 1])
        for values in [[0], [0, 3], [3, 0], [0, None], [False, 0], [0, 0, 0]]:
            self.assertIs(raised(InvalidStored, wide.spoil, "one", 0, 0, values).value, values)
        wide.spoil("one", 0, 0, (2, 0))
        self.assertEqual(wide["one"][1][0].pieces, ((2, 0), (2,)))
        store.spoil(name="one", row=0, piece=2, values=[1])
        self.assertEqual(store.history()[-1], ("spoil", "one", 0, 2, (1,)))
        self.assertEqual(store["one"][1], (TABLE((2, 1)).bent(2, (1,)), TABLE((0, 0))))
        self.assertEqual((store.heal("one", 0), store.heal("one", 0)), ((2,), ()))
        self.assertEqual(store["one"][1], (TABLE((2, 1)), TABLE((0, 0))))
        self.assertEqual(store.history()[-2:], [("heal", "one", 0)] * 2)


class PastTest(unittest.TestCase):
    def test_undo_everything(self):
        store = crashed(1)
        store.loss(3)
        states = []
        while store.history():
            states.append((store["one"] if "one" in store else None, store.halted, store.broken, store.history()))
            store.undo()
        self.assertEqual([len(history) for _, _, _, history in states], [3, 2, 1])
        self.assertEqual([halted for _, halted, _, _ in states], [("one", 0), ("one", 0), None])
        self.assertEqual(store, Store(BARE, BARE_PRICES, 4))
        raised(NothingToUndo, store.undo)

    def test_deeds_that_raise_are_none(self):
        store = filled()
        before = store.history()
        for call in [lambda: store.put("x", [], []), lambda: store.drop("x"), lambda: store.loss(9), lambda: store.renew(0),
                     lambda: store.write("one", 0, [(0, 9)]), lambda: store.rebuild("one", 0, 4), store.recover]:  # fmt: skip
            self.assertRaises(Exception, call)
        for call in [lambda: store.read("one", 0), lambda: store.danger("one"), lambda: store.scrub("one"), store.queue]:
            call()
        self.assertEqual(store.history(), before)

    def test_history_is_a_new_list(self):
        store = filled()
        told = store.history()
        told.clear()
        store.names().clear()
        store.queue().append(1)
        store.scrub("one").append(1)
        self.assertEqual((len(store.history()), store.names(), store.queue(), store.scrub("one")), (2, ["one", "two"], [], []))

    def test_trials_within_one_another(self):
        store = filled()
        first = store.copy()
        with store.trial() as outer:
            self.assertIs(outer, store)
            store.loss(0)
            second = store.copy()
            with store.trial() as inner:
                inner.drop("one")
                inner.undo()
                inner.undo()
                inner.undo()
                self.assertEqual(len(inner), 1)
            self.assertEqual(store, second)
            with self.assertRaises(ZeroDivisionError):
                with store.trial():
                    store.write("one", 0, [(0, 0)], 1)
                    raise ZeroDivisionError
            self.assertEqual((store, store.halted), (second, None))
        self.assertEqual((store, store.history()), (first, first.history()))

    def test_a_trial_begins_with_its_with(self):
        store = filled()
        trial = store.trial()
        store.loss(0)
        with trial:
            store.loss(1)
        self.assertEqual(store.broken, (0,))

    def test_errors_go_on_behind_a_trial(self):
        store = crashed(1)
        with self.assertRaises(Halted):
            with store.trial():
                store.read("one", 0)
        with self.assertRaises(Unsure):
            with store.trial():
                store.recover()
                store.spoil("one", 0, 0, [1])
                store.checked("one", 0)
        self.assertEqual((store.halted, len(store.history())), (("one", 0), 2))

    def test_attempt(self):
        store = filled()
        before = store.copy()

        def visit(given):
            self.assertIs(given, store)
            given.loss(0)
            given.attempt(lambda inner: inner.undo())
            return given.broken, given.read("one", 0)

        self.assertEqual(store.attempt(visit), ((0,), ((2, 1), 2)))
        self.assertEqual(store, before)
        self.assertIsNone(store.attempt(visitor=lambda given: given.drop("one")))
        self.assertEqual(store, before)
        with self.assertRaises(KeyError):
            store.attempt(lambda given: (given.drop("one"), {}[1]))
        raised(UnknownName, store.attempt, lambda given: (given.loss(1), given.read("x", 0)))
        self.assertEqual((store, store.history()), (before, before.history()))

    def test_copies_are_independent(self):
        store = filled()
        other = store.copy()
        self.assertIsNot(other, store)
        self.assertEqual(other, store)
        other.loss(0)
        store.drop("two")
        self.assertEqual((store.broken, other.broken, other.names()), ((), (0,), ["one", "two"]))
        self.assertFalse(store == other)
        halted = crashed(1).copy()
        self.assertEqual((halted.halted, halted.recover()), (("one", 0), "new"))

    def test_equality(self):
        self.assertTrue(filled() == filled())
        self.assertFalse(filled() != filled())
        others = [filled() for _ in range(8)]
        others[0].loss(0)
        others[1].undo()
        others[2].drop("two")
        others[3].write("one", 0, [(0, 2)])
        others[4].heal("one", 0)
        others[5].write("one", 0, [(0, 2)], 0)
        others[6].spoil("one", 0, 0, [2])
        others[7].put("two", [(1, 1)], [0, 0, 1, 4])
        for place, other in enumerate(others):
            self.assertFalse(other == filled())
            self.assertFalse(any(other == one for one in others[:place]))
        self.assertFalse(Store(TABLE, PRICES, 4) == Store(TABLE, PRICES, 5))
        self.assertFalse(Store(TABLE, PRICES, 4) == Store(TABLE, Prices([[2]] * 4, [1] * 4, [0] * 4), 4))
        self.assertFalse(Store(TABLE, PRICES, 4) == Store(TABLE.ordered([1, 0, 2, 3]), PRICES, 4))
        self.assertFalse(any(filled().__eq__(other) for other in ODD + [0, TABLE]))

    def test_long_histories(self):
        store = filled()
        begun = time.monotonic()
        for _ in range(10000):
            store.loss(4)
            store.renew(4)
        other = store.copy()
        self.assertEqual((len(store.history()), store == other), (20002, True))
        while len(store.names()) > 0:
            store.undo()
        del store, other
        self.assertLess(time.monotonic() - begun, 10)


class GreatestTest(unittest.TestCase):
    def test_greatest_stores_within_seconds(self):
        random = Random(451)
        wide = [2, 2, 2, 2, 1, 1]
        for prime, size, counts in [(2, 5, wide), (3, 5, wide), (5, 4, wide), (7, 3, [1] * 6)]:
            table = random_table(random, prime, size, counts)
            while not table.is_whole or not table.space(table.spots_of([0, 1, 2, 3, 4])).is_whole:
                table = random_table(random, prime, size, counts)
            prices = Prices([[1000] * n for n in counts], [1000] * 6, [1000] * 6)
            begun = time.monotonic()
            store = Store(table, prices, 6)
            for name in "abcdefgh":
                store.put(name, [tuple(random.randrange(prime) for _ in range(size)) for _ in range(4)], list(range(6)))
            for index in range(size):
                store.write("a", index % 4, [(index, 1)])
            store.loss(5)
            for name in store.names():
                for row in range(4):
                    self.assertEqual(store.read(name, row)[0], store.checked(name, row))
                    self.assertEqual(store.mended(name, row), store.checked(name, row))
                store.rebuild(name, 5, 0)
            store.queue()
            store.write("b", 3, [(0, 0)], 1)
            store.recover(True)
            self.assertLess(time.monotonic() - begun, 20)

    def test_greatest_sizes(self):
        table = Table(7, 4, [[(1, 0, 0, 0), (0, 1, 0, 0)], [(0, 0, 1, 0), (0, 0, 0, 1)], [(1, 1, 1, 1)]])
        store = Store(table, Prices([[1, 1], [1, 1], [3]], [1, 2, 3], [0, 0, 0]), 1)
        store.put("one", [(6, 5, 4, 3)], [0, 0, 0])
        self.assertEqual(store.read("one", 0), ((6, 5, 4, 3), 3))
        self.assertEqual(raised(LimitExceeded, store.write, "one", 0, [(0, 0)]).limit, 4096)
        self.assertEqual(store["one"][1], (Stored([(6, 5), (4, 3), (4,)]),))


if __name__ == "__main__":
    unittest.main()
