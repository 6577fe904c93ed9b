import time
import unittest

from leastreads.costs import Prices
from leastreads.errors import InvalidCost, InvalidNumber, InvalidTable, InvalidText
from leastreads.journal import read_journal, write_journal
from leastreads.store import Store
from leastreads.tables import Table
from support import NO_INTEGERS, ODD, EqualToAll, raised

TABLE = Table(3, 2, [[(1, 0)], [(0, 1)], [(1, 1)], [(1, 2)]])
PRICES = Prices([[1], [1], [1], [1]], [1, 1, 1, 1], [0, 0, 0, 0])
WIDE = Table(2, 2, [[(1, 0), (0, 1)], [(1, 1)]])
WIDE_PRICES = Prices([[1, 1], [1]], [2, 1], [0, 0])


def numbered(index, deed, check=None):
    """Return a line of a journal, with its right check number if none is told."""
    text = f"{index} {deed}"
    right = sum(place * ord(char) for place, char in enumerate(text, 1))
    return f"{index} {right if check is None else check} {deed}\n"


def journal(*deeds):
    return "".join(numbered(index, deed) for index, deed in enumerate(deeds))


ALL_KINDS = [
    "put one 0,1,2,3 2,1 0,0", "put two 4,4,4,4 1,1", "write one 0 0=1,1=2 -", "loss 1", "rebuild one 1 4", "spoil one 0 3 2",
    "heal one 0", "shift one 0 3", "write one 1 0=2 1", "loss 0", "recover strict", "renew 1", "write two 0 1=0 0",
    "spoil two 0 1 2", "recover mending", "drop two",
]  # fmt: skip


def all_kinds():
    """Return the store of these deeds."""
    store = Store(TABLE, PRICES, 5)
    store.put("one", [(2, 1), (0, 0)], [0, 1, 2, 3])
    store.put("two", [(1, 1)], [4, 4, 4, 4])
    store.write("one", 0, [(0, 1), (1, 2)])
    store.loss(1)
    store.rebuild("one", 1, 4)
    store.spoil("one", 0, 3, [2])
    store.heal("one", 0)
    store.shift("one", 0, 3)
    store.write("one", 1, [(0, 2)], 1)
    store.loss(0)
    store.recover()
    store.renew(1)
    store.write("two", 0, [(1, 0)], 0)
    store.spoil("two", 0, 1, [2])
    store.recover(True)
    store.drop("two")
    return store


class WriteTest(unittest.TestCase):
    def test_all_kinds_of_deeds(self):
        self.assertEqual(write_journal(all_kinds()), journal(*ALL_KINDS))
        self.assertEqual(write_journal(store=Store(TABLE, PRICES, 5)), "")

    def test_check_numbers(self):
        store = Store(TABLE, PRICES, 5)
        store.loss(1)
        places = [1 * 48, 2 * 32, 3 * 108, 4 * 111, 5 * 115, 6 * 115, 7 * 32, 8 * 49]
        self.assertEqual(write_journal(store), f"0 {sum(places)} loss 1\n")
        self.assertEqual(write_journal(store), "0 2761 loss 1\n")

    def test_several_values_in_a_piece(self):
        store = Store(WIDE, WIDE_PRICES, 6)
        store.put("abcdefgh", [[1, 0]] * 4, (5, 0))
        store.spoil("abcdefgh", 3, 0, (0, 1))
        store.write("abcdefgh", 0, [(0, 0)], crash=0)
        lines = journal("put abcdefgh 5,0 1,0 1,0 1,0 1,0", "spoil abcdefgh 3 0 0,1", "write abcdefgh 0 0=0 0")
        self.assertEqual(write_journal(store), lines)

    def test_what_is_undone_is_not_written(self):
        store = all_kinds()
        with store.trial():
            store.loss(2)
            self.assertTrue(write_journal(store).endswith(numbered(16, "loss 2")))
        store.undo()
        self.assertEqual(write_journal(store), journal(*ALL_KINDS[:-1]))


class ReadTest(unittest.TestCase):
    def check(self, text, many, why, table=TABLE, prices=PRICES, machines=5):
        """Check what is read of a text: the deeds of its first lines."""
        store, told, end = read_journal(table, prices, machines, text)
        self.assertEqual((told, end), (many, why), text)
        self.assertIs(type(store), Store)
        self.assertEqual(write_journal(store), "".join(line + "\n" for line in text.split("\n")[:many]))
        return store

    def test_all_kinds_of_deeds(self):
        store = self.check(journal(*ALL_KINDS), len(ALL_KINDS), "end")
        self.assertEqual(store, all_kinds())
        self.assertEqual(read_journal(text=journal(*ALL_KINDS), machines=5, cost=PRICES, table=TABLE)[1:], (16, "end"))
        self.assertEqual(type(read_journal(TABLE, PRICES, 5, "")), tuple)

    def test_empty(self):
        self.assertEqual(self.check("", 0, "end"), Store(TABLE, PRICES, 5))

    def test_cut_at_each_place(self):
        text = journal(*ALL_KINDS)
        store = all_kinds()
        stores = []
        while store.history():
            stores.append(store.copy())
            store.undo()
        stores = [store, *stores[::-1]]
        for place in range(len(text)):
            begun = text[:place]
            many = begun.count("\n")
            self.assertEqual(self.check(begun, many, "end" if begun.endswith("\n") or not begun else "torn"), stores[many])

    def test_one_character_replaced_at_each_place(self):
        deeds = ["put one 0,1,2,3 2,1 0,0", "write one 0 0=1,1=2 -", "loss 1", "spoil one 0 2 2", "heal one 0",
                 "rebuild one 1 1", "recover strict"]  # fmt: skip
        text = journal(*deeds[:5])
        for place, old in enumerate(text):
            for new in "0129 ,=-az\n~!A":
                if new != old:
                    changed = text[:place] + new + text[place + 1 :]
                    line = text[:place].count("\n")
                    why = read_journal(TABLE, PRICES, 5, changed)[2]
                    self.assertIn(why, ["form", "check"] + (["torn"] if place == len(text) - 1 else []))
                    self.check(changed, line, why)

    def test_the_last_newline(self):
        text = journal(*ALL_KINDS)
        self.check(text[:-1], 15, "torn")
        self.check(text + "\n", 16, "form")
        self.check(text + " ", 16, "torn")
        self.check(text + "\n\n", 16, "form")
        self.check("\n", 0, "form")
        self.check("x", 0, "torn")
        self.check(numbered(0, "loss 1")[:-1], 0, "torn")

    def test_wrong_indexes(self):
        self.check(numbered(1, "loss 1"), 0, "form")
        self.check(numbered("00", "loss 1"), 0, "form")
        self.check(numbered("", "loss 1"), 0, "form")
        self.check(numbered(0, "loss 1") + numbered(0, "loss 2"), 1, "form")
        self.check(numbered(0, "loss 1") + numbered(2, "loss 2"), 1, "form")
        self.check(numbered(0, "loss 1") + numbered("x", "loss 2"), 1, "form")
        many = journal(*["loss 1", "renew 1"] * 8)
        self.check(many, 16, "end")

    def test_wrong_check_numbers(self):
        for check in [0, 1, 2760, 2762, 10**29]:
            self.check(numbered(0, "loss 1", check), 0, "check")
        for check in ["-1", "+1", "02761", "", "x", 10**30, "2761.0", "\u0662"]:
            self.check(numbered(0, "loss 1", check), 0, "form")

    def test_the_form_of_deeds(self):
        wrong = [
            "", " ", "loss", "loss ", " loss 1", "loss  1", "loss 1 ", "loss 1 1", "loss -1", "loss +1", "loss 01", "loss x",
            "loss 1,2", "loss " + "1" * 31, "Loss 1", "lose 1", "renew", "renew x", "drop", "drop One", "drop abcdefghi",
            "drop one two", "put one", "put one 0,1,2,3", "put one 0,1,2,3 ", "put One 0,1,2,3 1,1", "put one 0,1,,3 1,1",
            "put one 0,1,2,3 1,1,", "put one 0,1,2,3 1;1", "put one - 1,1", "put one 0,1,2,3 -", "put one 0,1,2,3 1,-1",
            "write one 0 0=1", "write one 0 - -", "write one 0 0=1 - -", "write one 0 0 -", "write one 0 0=1=1 -",
            "write one 0 0=1, -", "write one 0 =1 -", "write one 0 0= -", "write one 0 00=1 -", "write one x 0=1 -",
            "write one 0 0=1 x", "write one 0 0=1 -1", "write one - 0=1 -", "recover", "recover Strict", "recover strict strict",
            "recover False", "recover -", "spoil one 0 0", "spoil one 0 0 -", "spoil one 0 0 1 1", "spoil one 0 0 1,,1",
            "heal one", "heal one -", "heal one 0 0", "rebuild one 0", "rebuild one 0 -", "rebuild one 0 0 0", "shift one 0",
            "shift 1 0 0", "undo", "trial", "read one 0", "loss \u0661", "loss 1\t", "put \u00e4 0,1,2,3 1,1",
        ]  # fmt: skip
        for deed in wrong:
            text = numbered(0, "put one 0,1,2,3 1,1") + numbered(1, deed) + numbered(2, "loss 1")
            self.check(text, 1, "form")
            self.check(numbered(0, "put one 0,1,2,3 1,1") + numbered(1, deed, 7), 1, "form")

    def test_deeds_that_the_store_refuses(self):
        refused = [
            "loss 5", "loss 0", "loss " + "1" * 30, "renew 1", "drop two", "put two 0,1,2,3 1,1", "put two 1,1,2 1,1",
            "put two 1,2,3,4 1,1,1", "put two 1,2,3,4 3,1", "put two 1,2,3,4 1,1 1,1 1,1 1,1 1,1", "put two 1,2,3,9 1,1",
            "write one 1 0=1 -", "write one 0 1=1,0=1 -", "write one 0 0=3 -", "write one 0 2=0 -", "write one 0 0=1 4",
            "write two 0 0=1 -", "recover strict", "recover mending", "spoil one 0 0 1", "spoil one 0 1 1,1", "spoil one 0 1 3",
            "spoil two 0 1 1", "heal one 1", "heal two 0", "rebuild one 1 1", "rebuild one 0 0", "rebuild one 9 1", "shift one 0 1",
            "shift one 1 1", "shift one 1 9",
        ]  # fmt: skip
        for deed in refused:
            self.check(journal("put one 0,1,2,3 1,1", "loss 0", deed, "loss 1"), 2, "deed")
            text = journal("put one 0,1,2,3 1,1", "loss 0") + numbered(2, deed, 7)
            self.check(text, 2, "check")
        halted = journal("put one 0,1,2,3 1,1", "write one 0 0=0 1")
        for deed in ["put two 0,1,2,3 1,1", "drop one", "heal one 0", "shift one 0 1", "write one 0 0=0 -", "loss 7"]:
            self.check(halted + numbered(2, deed), 2, "deed")
        self.check(halted + numbered(2, "loss 1") + numbered(3, "spoil one 0 0 1") + numbered(4, "recover strict"), 5, "end")
        unsure = halted + numbered(2, "spoil one 0 1 2")
        self.check(unsure + numbered(3, "recover strict"), 3, "deed")

    def test_lost_and_unsure_and_unsafe_and_too_many(self):
        self.check(journal("put one 0,0,0,1 1,1", "loss 0", "rebuild one 0 1"), 2, "deed")
        self.check(journal("put one 0,1,2,3 1,1", "spoil one 0 0 0", "write one 0 0=1 -"), 2, "deed")
        self.check(journal("put one 0,0,0,1 1,1", "loss 0", "write one 0 0=1 -"), 2, "deed")
        names = [f"put {name} 0,0,0,0 1,1" for name in "abcdefghi"]
        self.check(journal(*names), 8, "deed")
        table = Table(7, 3, [[(1, 0, 0)], [(0, 1, 0)], [(0, 0, 1)]])
        prices = Prices([[1]] * 3, [1] * 3, [0] * 3)
        text = journal("put one 0,1,2 6,5,4", "write one 0 1=6 -", "write one 0 0=1,1=1 -")
        self.check(text, 2, "deed", table, prices)

    def test_errors_in_order(self):
        self.assertIsNone(raised(InvalidTable, read_journal, Table(2, 2, [[(1, 1)]]), None, None, None).place)
        self.assertIs(raised(InvalidCost, read_journal, TABLE, WIDE_PRICES, None, None).value, WIDE_PRICES)
        for machines in NO_INTEGERS + [0, 7]:
            self.assertIs(raised(InvalidNumber, read_journal, TABLE, PRICES, machines, None).value, machines)
        for text in [item for item in ODD if not isinstance(item, str)] + [0, [], b"", ["0"], EqualToAll()]:
            self.assertIsNone(raised(InvalidText, read_journal, TABLE, PRICES, 5, text).place)

    def test_greatest_journals_within_seconds(self):
        table = Table(3, 5, [[(1, 0, 0, 0, 0), (0, 1, 0, 0, 0)], [(0, 0, 1, 0, 0), (0, 0, 0, 1, 0)], [(0, 0, 0, 0, 1), (1, 1, 1, 1, 1)],
                             [(1, 2, 1, 2, 1), (2, 1, 1, 0, 1)], [(1, 1, 0, 0, 2)], [(0, 1, 2, 0, 1)]])  # fmt: skip
        prices = Prices([[1, 2]] * 4 + [[1]] * 2, [3] * 6, [1] * 6)
        store = Store(table, prices, 6)
        store.put("one", [(0, 1, 2, 0, 1)] * 4, [0, 1, 2, 3, 4, 5])
        begun = time.monotonic()
        number = 0
        while number < 2500:
            store.write("one", number % 4, [(number % 5, number % 3)])
            if number % 50 == 0:
                store.loss(number // 50 % 6)
                store.renew(number // 50 % 6)
                store.rebuild("one", number // 50 % 6, number // 50 % 6)
            number += 1
        text = write_journal(store)
        self.assertLess(len(text), 100000)
        again, many, why = read_journal(table, prices, 6, text)
        self.assertTrue(again == store and many == len(store.history()) and why == "end")
        self.assertLess(time.monotonic() - begun, 30)


if __name__ == "__main__":
    unittest.main()
