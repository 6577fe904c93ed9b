"""Whole lives of stores: deeds of all kinds in a row, with losses, wrong pieces and crashes."""

import unittest
from random import Random

from leastreads.costs import Prices
from leastreads.errors import Lost, Unsure
from leastreads.journal import read_journal, write_journal
from leastreads.store import Store
from leastreads.tables import Table
from leastreads.texts import certify, check
from leastreads.wrong import strength
from net_support import random_prices
from store_support import Beside, StoreChecks
from support import raised, random_table, subsets, units_of

SHAPES = [
    (2, 1, [1, 1, 1], 3), (2, 2, [1, 1, 1], 4), (2, 2, [1, 1, 1, 1], 4), (3, 1, [1, 1, 1], 3), (3, 2, [1, 1, 1, 1], 5),
    (2, 3, [2, 2, 2], 3), (3, 2, [2, 1, 1], 3), (5, 1, [1, 1, 1], 2), (2, 2, [1, 1, 1, 1, 1], 6),
]  # fmt: skip
# Strong tables, each whole on any of its pieces or on any two or three of them.
STRONG = [
    Table(2, 1, [[(1,)]] * 5),
    Table(3, 2, [[(1, 0)], [(0, 1)], [(1, 1)], [(1, 2)]]),
    Table(5, 2, [[(1, 0)], [(0, 1)], [(1, 1)], [(1, 2)], [(1, 3)], [(1, 4)]]),
    Table(2, 3, [[(1, 0, 0)], [(0, 1, 0)], [(0, 0, 1)], [(1, 1, 0)], [(0, 1, 1)], [(1, 1, 1)]]),
]


def whole_table(random, prime, size, counts):
    while True:
        table = random_table(random, prime, size, counts)
        if table.is_whole:
            return table


class Living:
    """Random deeds for a store, most of them such that can be done."""

    def __init__(self, random, beside):
        self.random, self.beside, self.table = random, beside, beside.table

    def mostly(self, rows, others):
        """Return one of some rows, if there are any, and seldom one of the others."""
        return self.random.choice(rows if rows and self.random.random() < 0.9 else others)

    def name(self):
        return self.mostly([*self.beside.objects], ["a", "b", "c"])

    def machine(self, *but):
        working = [m for m in range(self.beside.machines) if m not in self.beside.down and m not in but]
        return self.mostly(working, range(-1, self.beside.machines + 1))

    def row(self, name):
        return self.mostly(range(len(self.beside.objects.get(name, {"rows": []})["rows"])), range(-1, 4))

    def piece(self, name, is_gone):
        where = self.beside.objects.get(name, {"where": []})["where"]
        return self.mostly([piece for piece, place in enumerate(where) if (place is None) == is_gone], range(len(self.table)))

    def deed(self):
        random, beside = self.random, self.beside
        if len(beside.objects) < 2 and random.random() < 0.8:
            return self.told("put")
        if beside.crashed is not None:
            words = ["recover"] * 4 + ["loss", "loss", "spoil", "spoil", "renew", "write", "rebuild", "put", "drop"]
        elif any(None in thing["where"] for thing in beside.objects.values()):
            words = ["rebuild"] * 6 + ["write"] * 6 + ["renew", "renew", "loss", "heal", "spoil", "shift", "recover"]
        else:
            words = ["write"] * 6 + ["loss", "loss", "heal", "spoil", "spoil", "shift", "put", "drop", "renew", "recover"]
        return self.told(random.choice(words))

    def told(self, word):
        random, table, name = self.random, self.table, self.name()
        row = self.row(name)
        if word == "put":
            rows = [tuple(random.randrange(table.prime) for _ in range(table.size)) for _ in range(random.randint(1, 2))]
            spread = random.randrange(6)
            working = [m for m in range(self.beside.machines) if m not in self.beside.down] or [0]
            where = [working[(piece + spread) % len(working)] for piece in range(len(table))]
            return (word, random.choice("abc"), rows, where)
        if word == "write":
            changed = random.choice(subsets(range(table.size))[1:])
            crash = random.choice([None, None, 0, 1, 1, 2, 2, 3])
            return (word, name, row, [(index, random.randrange(table.prime)) for index in changed], crash)
        if word == "spoil":
            if self.beside.crashed is not None and random.random() < 0.8:
                name, row = self.beside.crashed
            piece = self.piece(name, False)
            return (word, name, row, piece, [random.randrange(table.prime) for _ in table.pieces[piece]])
        if word == "recover":
            return (word, random.choice([False, True]))
        if word == "drop":
            return (word, name)
        if word == "renew":
            return (word, self.mostly(sorted(self.beside.down), range(-1, self.beside.machines + 1)))
        if word == "loss":
            return (word, self.machine())
        return (word, name, row) if word == "heal" else (word, name, self.piece(name, word == "rebuild"), self.machine())


class LivesTest(StoreChecks, unittest.TestCase):
    def live(self, seed, deeds):
        """Let a store live beside another one; return the words of all deeds that were done, and of the errors."""
        random = Random(seed)
        prime, size, counts, machines = SHAPES[seed % len(SHAPES)]
        table = whole_table(random, prime, size, counts)
        prices = random_prices(random, table)
        store, beside = Store(table, prices, machines), Beside(table, prices, machines)
        living, past, done = Living(random, beside), [], []
        for step in range(deeds):
            before = beside.copy()
            how, told = self.check_call(store, beside, *living.deed())
            if how == "told":
                past.append(before)
                done.append((beside.deeds[-1][0], told if beside.deeds[-1][0] == "recover" else None))
            else:
                done.append((type(told).__name__, None))
            self.check_same(store, beside)
            if step % 4 == 0:
                self.check_answers(store, beside)
            if past and random.random() < 0.1:
                store.undo()
                beside = living.beside = past.pop()
                self.check_same(store, beside)
        self.check_answers(store, beside)
        text = write_journal(store)
        again, many, why = read_journal(table, prices, machines, text)
        self.assertTrue((again == store, many, why) == (True, len(beside.deeds), "end"))
        self.check_answers(again, beside)
        self.assertEqual(write_journal(again), text)
        self.check_certificates(store, beside)
        return done

    def check_certificates(self, store, beside):
        """Check the certificates of the reads of all rows that are not lost."""
        for name, thing in beside.objects.items():
            for index, row in enumerate(thing["rows"]):
                if row["lost"] or store.halted is not None:
                    continue
                gone = store.table.spots_of(beside.gone(row))
                try:
                    text = certify(store.table, store.cost, gone, units_of(store.table))
                except Lost as error:
                    self.assertEqual(raised(Lost, store.read, name, index).blind, error.blind)
                    continue
                self.assertIs(check(text), True)
                self.assertIn(f"\nread {store.read(name, index)[1]}", text)

    def test_deeds_of_all_kinds(self):
        done = [item for seed in range(90) for item in self.live(seed, 70)]
        words = [word for word, _ in done]
        for word in ["put", "drop", "write", "recover", "loss", "renew", "spoil", "heal", "rebuild", "shift"]:
            self.assertGreater(words.count(word), 15, word)
        for error in ["Halted", "UnknownName", "InvalidNumber", "InvalidPieces", "Lost", "Unsure", "NotHalted", "Unsafe"]:
            self.assertGreater(words.count(error), 5, error)
        for told in ["new", "old", "none"]:
            self.assertGreater(done.count(("recover", told)), 5, told)

    def test_a_dict_beside_a_store_without_wrong_pieces(self):
        for number, table in enumerate(STRONG * 4):
            random = Random(900 + number)
            prices = random_prices(random, table)
            store = Store(table, prices, 6)
            kept = {}
            for _ in range(60):
                self.one_right_deed(random, store, kept)
                self.assertEqual(store.names(), sorted(kept))
                for name, rows in kept.items():
                    placing = store[name][0]
                    for row, data in enumerate(rows):
                        if data is not None and store.danger(name)[0] > 0:
                            self.assertEqual(store.read(name, row)[0], data)
                            self.assertEqual(store.checked(name, row), data)
                            self.assertEqual(store.mended(name, row), data)
                    self.assertEqual(store.scrub(name), [])
                    self.assertTrue(all(m is None or m not in store.broken for m in placing))

    def one_right_deed(self, random, store, kept):
        """Do something in a store without wrong pieces, and the same in a dict; lost rows are None there."""
        table = store.table
        name = random.choice("abc")
        working = [machine for machine in range(6) if machine not in store.broken]
        deed = random.choice(["put", "write", "write", "write", "loss", "renew", "rebuild", "rebuild"])
        if (deed == "put" or name not in kept) and deed not in ("loss", "renew") and working:
            kept[name] = [tuple(random.randrange(table.prime) for _ in range(table.size)) for _ in range(random.randint(1, 4))]
            store.put(name, kept[name], [random.choice(working) for _ in range(len(table))])
        elif deed == "write" and store.danger(name)[0] > 0:
            row = random.randrange(len(kept[name]))
            if kept[name][row] is not None:
                kept[name][row] = self.written(random, store, name, row, kept[name][row])
        elif deed == "loss" and len(working) > 3:
            store.loss(random.choice(working))
        elif deed == "renew" and store.broken:
            store.renew(random.choice(store.broken))
        elif deed == "rebuild" and name in kept and store.danger(name)[0] > 0 and working:
            for piece in [piece for piece, machine in enumerate(store[name][0]) if machine is None][:2]:
                store.rebuild(name, piece, random.choice(working))

    def written(self, random, store, name, row, old):
        """Write to a row, perhaps with a crash and a loss behind it; return the data it has then, None if it is lost."""
        table = store.table
        index = random.randrange(table.size)
        new = list(old)
        new[index] = random.randrange(table.prime)
        most = len([p for p, values in enumerate(store[name][1][row].pieces) if values is not None])
        crash = random.choice([None, *range(most + 1)])
        try:
            store.write(name, row, [(index, new[index])], crash)
        except Exception as error:
            self.assertIn(type(error).__name__, ["InvalidNumber", "Unsafe"])
            return old
        if crash is None:
            return tuple(new)
        if random.random() < 0.3:
            store.loss([machine for machine in range(6) if machine not in store.broken][0])
        word = store.recover(random.choice([False, True]))
        return {"new": tuple(new), "old": old, "none": None}[word]

    def test_wrong_pieces_within_the_strength(self):
        for number, table in enumerate(STRONG * 3):
            random = Random(950 + number)
            most = strength(table)[0]
            prices = Prices([[1]] * len(table), [1] * len(table), [0] * len(table))
            for _ in range(12):
                store = Store(table, prices, 6)
                data = tuple(random.randrange(table.prime) for _ in range(table.size))
                store.put("one", [data], [piece % 6 for piece in range(len(table))])
                gone = random.sample(range(len(table)), random.choice([0, 0, 1]))
                for machine in gone:
                    store.loss(machine)
                most = strength(table, sorted(gone))[0]
                there = [piece for piece in range(len(table)) if piece not in gone]
                for many in range(most):
                    with store.trial():
                        for piece in random.sample(there, many):
                            wrong = (store["one"][1][0][piece, 0] + random.randint(1, table.prime - 1)) % table.prime
                            store.spoil("one", 0, piece, [wrong])
                        if many == 0:
                            self.assertEqual(store.checked("one", 0), data)
                        else:
                            self.assertEqual(store.scrub("one"), [0])
                            self.assertRaises(Unsure, store.checked, "one", 0)
                        if 2 * many < most:
                            self.assertEqual(store.mended("one", 0), data)
                            self.assertEqual(len(store.heal("one", 0)), many)
                            self.assertEqual(store["one"][1][0], table(data).without(sorted(gone)))
                self.assertEqual(store.checked("one", 0), data)

    def test_safe_orders_lose_nothing(self):
        for number, table in enumerate(STRONG * 2):
            random = Random(970 + number)
            store = Store(table, random_prices(random, table), 6)
            old = tuple(random.randrange(table.prime) for _ in range(table.size))
            store.put("one", [old], [piece % 6 for piece in range(len(table))])
            for index in range(table.size):
                for crash in range(len(table) + 1):
                    for machine in range(6):
                        with store.trial():
                            value = random.randrange(table.prime)
                            try:
                                store.write("one", 0, [(index, value)], crash)
                            except Exception as error:
                                self.assertEqual(type(error).__name__, "InvalidNumber")
                                continue
                            new = (*old[:index], value, *old[index + 1 :])
                            if number % 4 in (0, 2):
                                # Of these tables one more piece may go at each moment.
                                store.loss(machine)
                            word = store.recover()
                            self.assertEqual(store.checked("one", 0), {"new": new, "old": old}[word])
                self.assertEqual(store.read("one", 0)[0], old)


if __name__ == "__main__":
    unittest.main()
