"""What holds over the whole program: the order of pieces and of parts, and a change of data, change only names."""

import unittest
from random import Random

from leastreads.costs import Prices
from leastreads.errors import LeastError
from leastreads.ground import fatal
from leastreads.judged import alike, fewest_touches, rebased, sizes
from leastreads.moves import move
from leastreads.placings import Placing, best_placing, fatal_machines, survival
from leastreads.reads import least
from leastreads.rebuilds import in_order, together
from leastreads.scrubs import scrub
from leastreads.store import Store
from leastreads.stored import Stored
from leastreads.sums import Sum
from leastreads.tables import Table
from leastreads.wrong import explanations, strength
from leastreads.writes import safe_order, touched
from net_support import random_prices
from support import data_of, random_sums, random_table, span_of
from test_wrong import random_stored

SHAPES = [(2, 2, [1, 1, 1, 1]), (2, 3, [2, 1, 1, 1]), (3, 2, [1, 1, 1, 1]), (3, 2, [2, 1, 2]), (5, 2, [1, 1, 1]), (2, 2, [1] * 5)]


class Question:
    """A table with prices, gone pieces, wishes, a placing, and what is stored; told numbers must stay."""

    def __init__(self, table, prices, gone, wishes, where, stored):
        self.table, self.prices, self.gone, self.wishes = table, prices, sorted(gone), wishes
        self.where, self.stored = tuple(where), stored

    def ordered(self, random):
        """Return the same question with the pieces and their parts in another order."""
        order = random.sample(range(len(self.table)), len(self.table))
        table = Table(self.table.prime, self.table.size, [self.table.pieces[piece][::-1] for piece in order])
        parts = [self.prices.parts[piece][::-1] for piece in order]
        prices = Prices(parts, [self.prices.wholes[p] for p in order], [self.prices.opens[p] for p in order])
        rows = [self.stored.pieces[piece] for piece in order]
        stored = Stored([None if values is None else values[::-1] for values in rows])
        gone = [order.index(piece) for piece in self.gone]
        return Question(table, prices, gone, self.wishes, [self.where[piece] for piece in order], stored)

    def changed(self, random):
        """Return the same question for data that are changed by a base."""
        prime, size = self.table.prime, self.table.size
        while True:
            base = tuple(random.choices(data_of(prime, size), k=size))
            if len(span_of(prime, size, base)) == prime**size:
                break
        wishes = [Sum(prime, [item(data) for data in base]) for item in self.wishes]
        return Question(rebased(self.table, base), self.prices, self.gone, wishes, self.where, self.stored)

    def answers(self):
        """Return all that must not change."""
        table, prices, gone = self.table, self.prices, self.gone
        placing = Placing(4, self.where)
        spots = table.spots_of(gone)
        told = explanations(table, self.stored)
        calls = [
            lambda: least(table, prices, spots, self.wishes).cost, lambda: together(table, prices, gone).cost,
            lambda: in_order(table, prices, gone)[0], lambda: strength(table, gone)[0], lambda: (told[0], len(told[1])),
            lambda: scrub(table, prices, [], gone, 1)[1], lambda: survival(table, placing),
            lambda: sorted(len(machines) for machines, _ in fatal_machines(table, placing)),
            lambda: sorted(len(pieces) for pieces, _ in fatal(table, self.wishes)),
            lambda: best_placing(table, 3, 3)[1], lambda: move(table, prices, placing, 0, 1, 2, [0])[0],
            lambda: (sizes(table), fewest_touches(table)[0]), self.of_a_store,
        ]  # fmt: skip
        return [outcome(call) for call in calls]

    def of_a_store(self):
        """Return the costs and the danger of an object of a store that loses a machine."""
        store = Store(self.table, self.prices, 4)
        store.put("one", [(0,) * self.table.size], [piece or 0 for piece in self.where])
        told = [store.read("one", 0)[1], store.danger("one")[0]]
        store.loss(1)
        return told + [outcome(lambda: store.read("one", 0)[1]), store.danger("one")[0]]

    def writes(self):
        """Return what no order of pieces changes of writes, all changed indexes being named."""
        told = []
        for changed in [[index] for index in range(self.table.size)]:
            told.append((len(touched(self.table, changed)), [safe_order(self.table, changed, most)[0] for most in range(3)]))
        return told


def outcome(call):
    """Return what a call tells, or the name of the error that it raises."""
    try:
        return call()
    except LeastError as error:
        return type(error).__name__


def questions(seed, many):
    random = Random(seed)
    for number in range(many):
        table = random_table(random, *SHAPES[number % len(SHAPES)])
        gone = random.sample(range(len(table)), random.choice([1, 1, 2]))
        where = [random.choice([None, 0, 1, 1, 2, 3]) for _ in range(len(table))]
        stored = random_stored(random, table, number % 3, number % 2)
        yield random, Question(table, random_prices(random, table), gone, random_sums(random, table, 2), where, stored)


class WholeTest(unittest.TestCase):
    def test_the_order_of_pieces_and_parts_changes_only_names(self):
        told = []
        for random, question in questions(801, 60):
            other = question.ordered(random)
            self.assertEqual(other.answers(), question.answers())
            self.assertEqual(other.writes(), question.writes())
            told += question.answers()
        self.assertGreater(len([item for item in told if not isinstance(item, str)]), 400)
        self.assertGreater(len([item for item in told if isinstance(item, str)]), 50)

    def test_a_change_of_data_changes_only_names(self):
        for random, question in questions(802, 60):
            other = question.changed(random)
            self.assertEqual(other.answers(), question.answers())
            self.assertIsNotNone(alike(question.table, other.table))
            both = other.ordered(random)
            self.assertEqual(both.answers(), question.answers())
            self.assertIsNotNone(alike(question.table, both.table))


if __name__ == "__main__":
    unittest.main()
