import time
import unittest
from random import Random

from leastreads.costs import Prices
from leastreads.errors import (
    InvalidCost, InvalidNumber, InvalidPieces, InvalidPlacing, InvalidSpots, InvalidStored, InvalidWishes,
    LimitExceeded, Lost, NoWay, Unseen,
)  # fmt: skip
from leastreads.moves import move
from leastreads.nets import Net
from leastreads.papers import is_barred, is_explained, is_least, is_scrub, is_way
from leastreads.placings import Placing, best_placing
from leastreads.reads import least
from leastreads.scrubs import scrub
from leastreads.stored import Stored
from leastreads.sums import Sum
from leastreads.tables import Table
from leastreads.wrong import explanations
from net_support import all_choices, random_net, random_prices
from paper_support import (
    is_barred_right, is_explained_right, is_least_right, is_scrub_right, is_way_right, subsets, variants,
)  # fmt: skip
from support import NO_INTEGERS, NO_LISTS, ODD, are_had, data_of, raised, random_table, units_of, value_of
from test_moves import Plain
from test_placings import cases as placing_cases
from test_reads import cases as read_cases
from test_scrubs import cases as scrub_cases
from test_wrong import BENT, all_explanations
from test_wrong import cases as wrong_cases

TABLE = Table(3, 2, [[(1, 0)], [(0, 1)], [(1, 1)], [(1, 2)]])
PRICES = Prices([[5], [2], [2], [3]], [9, 9, 9, 9], [0, 0, 0, 0])
NET = Net(PRICES, [0, 1, 1, 0], [(0, 1, 1)], 0)
SHORT = Prices([[1]] * 3, [1] * 3, [1] * 3)
ONE = Sum(3, (1, 0))
PLACING = Placing(3, [0, 0, 1, 2])


def told_by(call, errors, *arguments):
    """Return what a call tells, or None if it raises one of these errors."""
    try:
        return call(*arguments)
    except errors:
        return None


class LeastTest(unittest.TestCase):
    def check(self, table, cost, gone, wishes, value):
        told = is_least(table, cost, gone, wishes, value)
        self.assertIs(told, is_least_right(table, cost, gone, wishes, value), (table.pieces, gone, value))
        return told

    def papers(self, seed, many, make_cost, wishes=3):
        """Generate questions with the papers that least tells for them."""
        for table, cost, gone, items in read_cases(seed, many, make_cost, wishes):
            reads = told_by(least, Lost, table, cost, gone, items)
            if reads is not None:
                yield table, cost, gone, items, reads.paper()

    def test_what_least_tells_is_accepted(self):
        for make_cost, wishes in [(random_prices, 3), (random_net, 1)]:
            for case in self.papers(201, 120, make_cost, wishes):
                self.assertTrue(self.check(*case))
                self.assertIs(is_least(*case[:3], tuple(case[3]), case[4]), True)

    def test_altered_in_each_place(self):
        for make_cost, wishes in [(random_prices, 2), (random_net, 1)]:
            told = []
            for *question, paper in self.papers(202, 14, make_cost, wishes):
                told += [self.check(*question, value) for value in variants(paper)]
            self.assertGreater(told.count(True), 5)
            self.assertGreater(told.count(False), 300)

    def test_papers_of_other_losses_prices_and_wishes(self):
        random = Random(203)
        told = []
        for table, prices, gone, wishes, paper in self.papers(204, 60, random_prices):
            other = least(table, random_prices(random, table), [], wishes).paper()
            told += [self.check(table, prices, gone, wishes, other)]
            told += [self.check(table, random_prices(random, table), gone, wishes, paper)]
            told += [self.check(table, prices, [], wishes, paper)]
            told += [self.check(table, prices, gone, wishes[::-1], paper)]
            told += [self.check(table, prices, gone, [wishes[0] * -1, *wishes[1:]], paper)]
        self.assertGreater(told.count(True), 20)
        self.assertGreater(told.count(False), 100)

    def test_papers_that_were_found_in_another_way(self):
        random = Random(205)
        told = []
        for table, cost, gone, wishes, (spots, price, combinations, blinds) in self.papers(206, 50, random_prices):
            all_blinds = [d for d in data_of(table.prime, table.size) if any(item(d) for item in wishes)]
            self.assertTrue(self.check(table, cost, gone, wishes, (spots, price, combinations, tuple(all_blinds))))
            chosen = tuple(random.choices(all_blinds, k=4)) if all_blinds else ()
            doubled = tuple(tuple(2 * v % table.prime for v in data) for data in blinds) if table.prime > 2 else blinds
            for value in [chosen, doubled, blinds + blinds, blinds[::-1], blinds[1:], ()]:
                told.append(self.check(table, cost, gone, wishes, (spots, price, combinations, value)))
        self.assertGreater(told.count(True), 60)
        self.assertGreater(told.count(False), 60)

    def test_all_sets_of_spots_with_all_blinds(self):
        for table, cost, gone, wishes, (_, price, _, _) in self.papers(207, 24, random_prices, 1):
            blinds = tuple(d for d in data_of(table.prime, table.size) if wishes[0](d))
            for other, _, spots in all_choices(table, cost, gone):
                had = are_had(table, spots, [item.factors for item in wishes])
                reads = told_by(least, Lost, table, cost, [spot for spot in table if spot not in spots], wishes)
                combinations = ((),) if reads is None else reads.combinations
                value = (spots, other, combinations, blinds)
                self.assertIs(is_least(table, cost, gone, wishes, value), had and other == price)

    def test_lost_is_not_raised(self):
        for table, cost, gone, wishes in read_cases(208, 60, random_prices):
            if told_by(least, Lost, table, cost, gone, wishes) is None:
                for value in [((), 0, ((),) * len(wishes), ()), None, ((), 0, (), ())]:
                    self.assertIs(is_least(table, cost, gone, wishes, value), False)

    def test_a_net_without_a_tree(self):
        net = Net(PRICES, [0, 4, 4, 0], [(0, 1, 1)], 0)
        paper = least(TABLE, net, [], [Sum(3, (1, 1))]).paper()
        self.assertTrue(self.check(TABLE, net, [], [Sum(3, (1, 1))], paper))
        for cost in [None, 0, 2]:
            self.assertFalse(self.check(TABLE, net, [], [Sum(3, (1, 1))], (((2, 0),), cost, ((((2, 0), 1),),), ())))

    def test_wishes_without_reads(self):
        zero = Sum(3, (0, 0))
        self.assertTrue(self.check(TABLE, PRICES, list(TABLE), [zero] * 10, ((), 0, ((),) * 10, ())))
        self.assertFalse(self.check(TABLE, PRICES, [], [zero], ((), 0, ((),), ((1, 0),))))
        self.assertFalse(self.check(TABLE, PRICES, [], [zero], ((), False, ((),), ())))
        self.assertFalse(self.check(TABLE, PRICES, [], [zero], (((0, 0),), 5, ((),), ((1, 0),))))
        self.assertFalse(self.check(TABLE, PRICES, [], [zero], ([], 0, ((),), ())))

    def test_free_spots(self):
        free = Prices([[0]] * 4, [0] * 4, [0] * 4)
        for spots in subsets(list(TABLE)):
            had = are_had(TABLE, spots, [(1, 0)])
            combination = ((((0, 0), 1),),) if (0, 0) in spots else ((((1, 0), 2), ((2, 0), 1)),)
            self.assertEqual(self.check(TABLE, free, [], [ONE], (spots, 0, combination, ())), had and (
                (0, 0) in spots or {(1, 0), (2, 0)} <= set(spots)))  # fmt: skip

    def test_any_object(self):
        paper = least(TABLE, PRICES, [], [ONE]).paper()
        self.assertIs(is_least(TABLE, PRICES, [], [ONE], paper), True)
        for value in ODD + [0, [], (), paper[:3], paper + ((),), list(paper), least(TABLE, PRICES, [], [ONE])]:
            self.assertIs(is_least(TABLE, PRICES, [], [ONE], value), False)
        for place in range(4):
            for odd in ODD + [0, -1, [], 10**25]:
                value = paper[:place] + (odd,) + paper[place + 1 :]
                self.assertIs(is_least(TABLE, PRICES, [], [ONE], value), False)

    def test_errors_in_order(self):
        for cost in ODD + [0, TABLE, SHORT]:
            self.assertIs(raised(InvalidCost, is_least, TABLE, cost, None, None, None).value, cost)
        for gone in NO_LISTS + [[(1, 0), (0, 0)], [(0, 1)], [(0, False)]]:
            self.assertIs(raised(InvalidSpots, is_least, TABLE, PRICES, gone, None, None).value, gone)
        for wishes in NO_LISTS + [[], [None], [ONE, Sum(2, (1, 0))], [ONE] * 11, [(1, 0)]]:
            self.assertIs(raised(InvalidWishes, is_least, TABLE, PRICES, [], wishes, None).value, wishes)
        two = [ONE, ONE]
        self.assertIs(raised(InvalidWishes, is_least, TABLE, NET, [], two, None).value, two)
        self.assertIs(is_least(TABLE, PRICES, list(TABLE), [ONE] * 10, None), False)

    def test_greatest_tables_within_seconds(self):
        random = Random(209)
        for prime, size in [(2, 6), (3, 6), (5, 5), (7, 4)]:
            table = random_table(random, prime, size, [2, 2, 2, 2, 1, 1])
            while not table.is_whole:
                table = random_table(random, prime, size, [2, 2, 2, 2, 1, 1])
            prices = Prices([[1000] * n for n in [2, 2, 2, 2, 1, 1]], [1000] * 6, [1000] * 6)
            for wishes in [units_of(table), (units_of(table) * 3)[:10]]:
                spots, cost, combinations, blinds = least(table, prices, [], wishes).paper()
                begun = time.monotonic()
                everything = tuple(d for d in data_of(prime, size) if any(d))
                for value in [blinds, everything, everything + everything]:
                    self.assertTrue(is_least(table, prices, [], wishes, (spots, cost, combinations, value)))
                self.assertFalse(is_least(table, prices, [], wishes, (spots, cost, combinations, blinds[:-1] * 9)))
                self.assertLess(time.monotonic() - begun, 10)


class ExplainedTest(unittest.TestCase):
    def check(self, table, stored, value):
        told = is_explained(table, stored, value)
        self.assertIs(told, is_explained_right(table, stored, value), (table.pieces, stored.pieces, value))
        return told

    def test_what_explanations_tells_is_accepted(self):
        for table, stored in wrong_cases(211, 200):
            self.assertTrue(self.check(table, stored, explanations(table, stored)))

    def test_altered_in_each_place(self):
        told = []
        for table, stored in wrong_cases(212, 20):
            told += [self.check(table, stored, value) for value in variants(explanations(table, stored))]
        self.assertGreater(told.count(True), 20)
        self.assertGreater(told.count(False), 1000)

    def test_other_explanations(self):
        random = Random(213)
        told = []
        for table, stored in wrong_cases(214, 100):
            number, _, clashes = explanations(table, stored)
            rows = all_explanations(table, stored)
            for _ in range(6):
                found = tuple(sorted(random.sample(rows, min(len(rows), random.choice([1, 2, 2, 3])))))
                told.append(self.check(table, stored, (len(found[0][0]), found, clashes)))
                told.append(self.check(table, stored, (number, tuple(r for r in rows if len(r[0]) == number)[-2:], clashes)))
        self.assertGreater(told.count(True), 100)
        self.assertGreater(told.count(False), 100)

    def test_all_clashes_and_some_of_them(self):
        random = Random(215)
        told = []
        for table, stored in wrong_cases(216, 60):
            if table.prime ** len(list(table)) > 800:
                continue
            number, found, _ = explanations(table, stored)
            there = [spot for spot in table if spot in stored]
            clashes = []
            for factors in data_of(table.prime, len(there)):
                value = tuple((spot, factor) for spot, factor in zip(there, factors) if factor)
                given = [sum(table[s].factors[k] * f for s, f in value) % table.prime for k in range(table.size)]
                if not any(given) and sum(stored[s] * f for s, f in value) % table.prime:
                    clashes.append(value)
            self.assertTrue(self.check(table, stored, (number, found, tuple(clashes))))
            for many in [0, 1, 2]:
                some = tuple(random.sample(clashes, min(many, len(clashes))))
                told.append(self.check(table, stored, (number, found, some)))
        self.assertGreater(told.count(True), 15)
        self.assertGreater(told.count(False), 15)

    def test_papers_of_other_stored_pieces(self):
        paper = explanations(TABLE, BENT)
        self.assertTrue(self.check(TABLE, BENT, paper))
        for piece in range(4):
            for value in range(3):
                self.check(TABLE, BENT.bent(piece, (value,)), paper)
            self.assertFalse(self.check(TABLE, BENT.without([piece]), paper))
        self.assertFalse(self.check(TABLE, TABLE((2, 1)), paper))
        self.assertTrue(self.check(TABLE, Stored([None] * 4), (0, (((), (0, 1)), ((), (2, 2))), ())))
        self.assertFalse(self.check(TABLE, Stored([None] * 4), (0, (((), (0, 1)),), ())))

    def test_any_object_and_errors(self):
        paper = explanations(TABLE, BENT)
        for value in ODD + [0, [], (), paper[:2], list(paper)]:
            self.assertIs(is_explained(TABLE, BENT, value), False)
        for place in range(3):
            for odd in ODD + [7, -1, [], 10**25]:
                self.assertIs(is_explained(TABLE, BENT, paper[:place] + (odd,) + paper[place + 1 :]), False)
        for stored in ODD + [0, BENT.pieces, BENT.bent(0, (3,)), Stored([(0,)] * 3)]:
            self.assertIs(raised(InvalidStored, is_explained, TABLE, stored, None).value, stored)
            self.assertIs(raised(InvalidStored, is_explained, table=TABLE, value=paper, stored=stored).value, stored)

    def test_greatest_tables_within_seconds(self):
        random = Random(217)
        for prime, size in [(2, 6), (3, 6), (5, 5), (7, 4)]:
            table = random_table(random, prime, size, [2, 2, 2, 2, 1, 1])
            for wrong in range(7):
                stored = table([random.randrange(prime) for _ in range(size)])
                for piece in range(wrong):
                    stored = stored.bent(piece, [random.randrange(prime) for _ in table.pieces[piece]])
                paper = explanations(table, stored)
                begun = time.monotonic()
                self.assertTrue(is_explained(table, stored, paper))
                self.assertTrue(is_explained(table, stored, (paper[0], paper[1], paper[2] * 500)))
                self.assertLess(time.monotonic() - begun, 10)


class ScrubTest(unittest.TestCase):
    def check(self, table, prices, gone, watched, most, value):
        told = is_scrub(table, prices, gone, watched, value, most)
        self.assertIs(told, is_scrub_right(table, prices, gone, watched, most, value), (table.pieces, value))
        return told

    def papers(self, seed, many):
        for table, prices, gone, watched, most in scrub_cases(seed, many):
            paper = told_by(scrub, Unseen, table, prices, gone, watched, most)
            if paper is not None:
                yield table, prices, gone, watched, most, paper

    def test_what_scrub_tells_is_accepted(self):
        for case in self.papers(221, 120):
            self.assertTrue(self.check(*case))

    def test_altered_in_each_place(self):
        told = []
        for *question, paper in self.papers(222, 24):
            told += [self.check(*question, value) for value in variants(paper)]
        self.assertGreater(told.count(True), 3)
        self.assertGreater(told.count(False), 500)

    def test_other_refuters_and_other_questions(self):
        random = Random(223)
        told = []
        for table, prices, gone, watched, most, (spots, cost, refuters) in self.papers(224, 60):
            groups = [group for group in subsets(watched) if 1 <= len(group) <= most]
            pairs = [(group, data) for group in groups for data in data_of(table.prime, table.size)]
            parts = {group: [table[spot] for spot in table.spots_of(group)] for group in groups}
            everything = tuple(pair for pair in pairs if any(item(pair[1]) for item in parts[pair[0]]))
            self.assertTrue(self.check(table, prices, gone, watched, most, (spots, cost, everything)))
            chosen = tuple(random.choices(everything, k=3)) if everything else ()
            for value in [refuters[1:], refuters * 2, chosen, ()]:
                told.append(self.check(table, prices, gone, watched, most, (spots, cost, value)))
            paper = (spots, cost, refuters)
            told.append(self.check(table, random_prices(random, table), gone, watched, most, paper))
            told.append(self.check(table, prices, gone, watched, 1, paper))
            told.append(self.check(table, prices, gone, watched, min(6, most + 1), paper))
            told.append(self.check(table, prices, gone, watched[:1], most, paper))
        self.assertGreater(told.count(True), 60)
        self.assertGreater(told.count(False), 60)

    def test_all_sets_of_spots(self):
        for table, prices, gone, watched, most, (_, cost, _) in self.papers(225, 20):
            groups = [group for group in subsets(watched) if 1 <= len(group) <= most]
            pairs = [(group, data) for group in groups for data in data_of(table.prime, table.size)]
            parts = {group: [table[spot] for spot in table.spots_of(group)] for group in groups}
            everything = tuple(pair for pair in pairs if any(item(pair[1]) for item in parts[pair[0]]))
            for price, _, spots in all_choices(table, prices, gone):
                self.check(table, prices, gone, watched, most, (spots, price, everything))

    def test_refuters_of_pieces_that_are_not_watched(self):
        # The pieces 1 and 2 are not watched: a refuter of them would refute what is cheaper, but is none.
        spots, cost, refuters = scrub(TABLE, PRICES, [], [0], 2)
        self.assertTrue(self.check(TABLE, PRICES, [], [0], 2, (spots, cost, refuters)))
        self.assertGreater(len(refuters), 0)
        for other in [((1,), (0, 1)), ((0, 1), (1, 0)), ((0, 4), (1, 0)), ((), (1, 0)), ((0, 0), (1, 0)), ((-1,), (1, 0))]:
            self.assertFalse(self.check(TABLE, PRICES, [], [0], 2, (spots, cost, (*refuters, other))))
        for table, prices, gone, watched, most, (spots, cost, refuters) in self.papers(227, 60):
            for piece in range(len(table)):
                for data in data_of(table.prime, table.size)[1:3]:
                    value = (spots, cost, (*refuters, ((piece,), data)))
                    told = self.check(table, prices, gone, watched, most, value)
                    self.assertFalse(told and piece not in watched)

    def test_unseen_is_not_raised(self):
        gone = [(1, 0), (2, 0), (3, 0)]
        for value in [None, (((0, 0),), 5, ()), (((0, 0),), 5, (((0,), (1, 0)),))]:
            self.assertIs(is_scrub(TABLE, PRICES, gone, [0], value), False)

    def test_any_object(self):
        paper = scrub(TABLE, PRICES, [], [0])
        self.assertIs(is_scrub(TABLE, PRICES, [], [0], paper), True)
        for value in ODD + [0, [], (), paper[:2], list(paper)]:
            self.assertIs(is_scrub(TABLE, PRICES, [], [0], value), False)
        for place in range(3):
            for odd in ODD + [0, -1, [], 10**25]:
                value = paper[:place] + (odd,) + paper[place + 1 :]
                self.assertIs(is_scrub(TABLE, PRICES, [], [0], value), False)

    def test_errors_in_order(self):
        for cost in ODD + [0, TABLE, SHORT, NET]:
            self.assertIs(raised(InvalidCost, is_scrub, TABLE, cost, None, None, None, None).value, cost)
        for gone in NO_LISTS + [[(1, 0), (0, 0)], [(0, 1)]]:
            self.assertIs(raised(InvalidSpots, is_scrub, TABLE, PRICES, gone, None, None, None).value, gone)
        for watched in NO_LISTS + [[], [1, 0], [4], [True], [2]]:
            self.assertIs(raised(InvalidPieces, is_scrub, TABLE, PRICES, [(2, 0)], watched, None, 0).value, watched)
        for most in NO_INTEGERS + [0, 7]:
            self.assertIs(raised(InvalidNumber, is_scrub, TABLE, PRICES, [], [0], None, most).value, most)
            self.assertIs(raised(InvalidNumber, is_scrub, TABLE, PRICES, [], [0], None, most=most).value, most)

    def test_greatest_tables_within_seconds(self):
        random = Random(226)
        for prime, size in [(2, 4), (3, 3), (5, 2), (3, 6)]:
            table = random_table(random, prime, size, [2, 2, 2, 2, 1, 1])
            prices = random_prices(random, table, 500)
            for watched, most in [([0], 1), ([0, 1, 2], 2), ([0, 1, 2, 3, 4, 5], 6), ([4, 5], 1)]:
                paper = told_by(scrub, Unseen, table, prices, [], watched, most)
                begun = time.monotonic()
                if paper is not None:
                    self.assertTrue(is_scrub(table, prices, [], watched, paper, most))
                    self.assertTrue(is_scrub(table, prices, [], watched, (*paper[:2], paper[2] * 500), most))
                self.assertFalse(is_scrub(table, prices, [], watched, ((), 0, ()), most))
                self.assertLess(time.monotonic() - begun, 10)


class BarredTest(unittest.TestCase):
    def check(self, table, machines, limit, most, value):
        told = is_barred(table, machines, limit, most, value)
        self.assertIs(told, is_barred_right(table, machines, limit, most, value), (table.pieces, value))
        return told

    def papers(self, seed, many):
        for random, table in placing_cases(seed, many, whole=True):
            machines = random.randint(1, 3 if len(table) > 4 else 4)
            limit = random.randint(-(-len(table) // machines), 6)
            _, most, bars = best_placing(table, machines, limit)
            yield random, table, machines, limit, most, bars

    def test_what_best_placing_tells_is_accepted(self):
        for _, table, machines, limit, most, bars in self.papers(231, 100):
            self.assertTrue(self.check(table, machines, limit, most, bars))
            self.assertTrue(self.check(table, machines, limit, most + 1, bars))
            self.assertTrue(self.check(table, machines, limit, 10**20, bars))
            self.assertFalse(self.check(table, machines, limit, -1, bars))
            self.assertFalse(self.check(table, machines, limit, most, ()))
            if most > 0:
                self.assertFalse(self.check(table, machines, limit, most - 1, bars))

    def test_altered_in_each_place(self):
        told = []
        for _, table, machines, limit, most, bars in self.papers(232, 30):
            told += [self.check(table, machines, limit, most, value) for value in variants(bars)]
        self.assertGreater(told.count(True), 20)
        self.assertGreater(told.count(False), 500)

    def test_other_bars_and_other_questions(self):
        told = []
        for random, table, machines, limit, most, bars in self.papers(233, 60):
            pairs = [(group, data) for group in subsets(range(len(table))) for data in data_of(table.prime, table.size)]
            right = [pair for pair in pairs if is_barred_right(table, 1, 6, 0, (pair,))]
            for many in [1, 2, 3]:
                some = tuple(random.choices(right, k=many))
                told.append(self.check(table, machines, limit, most, some))
            self.assertTrue(self.check(table, machines, limit, most, tuple(right)))
            self.check(table, machines, 6, most, bars)
            self.check(table, min(4, machines + 1), limit, most, bars)
        self.assertGreater(told.count(True), 30)
        self.assertGreater(told.count(False), 30)

    def test_bars_of_all_pieces(self):
        everything = ((0, 1, 2, 3), (2, 1))
        self.assertTrue(self.check(TABLE, 1, 4, 0, (everything,)))
        self.assertFalse(self.check(TABLE, 2, 4, 0, (everything,)))
        self.assertTrue(self.check(TABLE, 2, 4, 1, (everything, everything)))
        self.assertFalse(self.check(TABLE, 2, 4, 1, (((0, 1, 2, 3), (0, 0)),)))

    def test_any_object(self):
        for value in ODD + [0, [], [((0, 1, 2, 3), (2, 1))]]:
            self.assertIs(is_barred(TABLE, 1, 4, 0, value), False)
            self.assertIs(is_barred(TABLE, 1, 4, 0, (value,)), False)
            self.assertIs(is_barred(TABLE, 1, 4, 0, (((0, 1, 2, 3), value),)), False)
            self.assertIs(is_barred(TABLE, 1, 4, 0, ((value, (2, 1)),)), False)

    def test_errors_in_order(self):
        for number in NO_INTEGERS + [0, 7, -1]:
            self.assertIs(raised(InvalidNumber, is_barred, TABLE, number, None, None, None).value, number)
            self.assertIs(raised(InvalidNumber, is_barred, TABLE, 1, number, None, None).value, number)
        for number in NO_INTEGERS + [-2, -(10**25)]:
            self.assertIs(raised(InvalidNumber, is_barred, TABLE, 1, 1, number, None).value, number)
        narrow = Table(2, 1, [[(0,)]] * 6)
        self.assertEqual(raised(LimitExceeded, is_barred, narrow, 5, 1, -1, None).limit, 1)
        self.assertEqual(raised(Lost, is_barred, narrow, 6, 1, -1, None).blind, (1,))
        wide = Table(2, 1, [[(1,)]] * 6)
        self.assertEqual(raised(LimitExceeded, is_barred, wide, 6, 1, -1, None).limit, 4096)
        self.assertIs(is_barred(wide, 4, 2, 1, best_placing(wide, 4, 2)[2]), False)
        self.assertIs(is_barred(wide, 4, 2, 3, best_placing(wide, 4, 2)[2]), True)

    def test_greatest_tables_within_seconds(self):
        random = Random(234)
        for prime, size, counts, machines in [(2, 3, [2, 2, 2, 2, 1, 1], 4), (3, 2, [2] * 5, 5), (7, 2, [1] * 4, 6)]:
            table = random_table(random, prime, size, counts)
            _, most, bars = best_placing(table, machines, 2)
            everything = tuple((g, d) for g in subsets(range(len(counts))) for d in [(0,) * (size - 1) + (1,)])
            begun = time.monotonic()
            self.assertTrue(is_barred(table, machines, 2, most, bars * 100))
            is_barred(table, machines, 2, most, everything)
            self.assertLess(time.monotonic() - begun, 10)


class WayTest(unittest.TestCase):
    def check(self, plain, placing, value):
        arguments = (plain.table, plain.prices, placing, plain.low, plain.high, plain.limit)
        told = is_way(*arguments, value, plain.closed)
        self.assertIs(told, is_way_right(plain, placing.where, value), (arguments, plain.closed, value))
        return told

    def papers(self, seed, many):
        """Generate so many questions with the papers that move tells, few of them without steps."""
        random = Random(seed)
        left = many
        while left > 0:
            prime, size, counts = random.choice([(2, 1, [1, 1, 1]), (2, 2, [1, 1, 2]), (3, 1, [2, 1]), (3, 2, [1, 1, 1, 1])])
            table = random_table(random, prime, size, counts)
            machines = random.randint(2, 3)
            where = [random.choice([None, 0, 0, 0, 1, 1]) for _ in counts]
            parts = [[random.randint(1, 4) for _ in parts] for parts in table.pieces]
            prices = Prices(parts, [3] * len(counts), [0] * len(counts))
            closed = random.choice([[], [], [0]])
            question = (random.choice([0, 0, 0, 1]), random.choice([0, 1, 1]), random.choice([2, 2, 3]))
            paper = told_by(move, NoWay, table, prices, Placing(machines, where), *question, closed)
            if paper is not None and (paper[1] or random.random() < 0.1):
                left -= 1
                yield Plain(table, prices, machines, *question, closed), Placing(machines, where), paper

    def test_what_move_tells_is_accepted(self):
        for plain, placing, paper in self.papers(241, 120):
            self.assertTrue(self.check(plain, placing, paper))

    def test_altered_in_each_place(self):
        told = []
        for plain, placing, paper in self.papers(242, 60):
            if len(paper[1]) < 4 and len(paper[2]) < 6:
                told += [self.check(plain, placing, value) for value in variants(paper)]
        self.assertGreater(told.count(True), 40)
        self.assertGreater(told.count(False), 1000)

    def test_other_steps_and_blocks(self):
        random = Random(243)
        told = []
        for plain, placing, (cost, steps, blocks) in self.papers(244, 60):
            told.append(self.check(plain, placing, (cost, steps[::-1], blocks)))
            told.append(self.check(plain, placing, (cost, steps, tuple(random.sample(blocks, len(blocks) // 2)))))
            told.append(self.check(plain, placing, (cost, steps, blocks + blocks)))
            told.append(self.check(plain, placing, (cost, steps, ())))
            there = [piece for piece, place in enumerate(placing.where) if place is not None]
            wider = [(piece, machine, plain.table.spots_of(there)) for piece, machine, _ in steps[:1]]
            told.append(self.check(plain, placing, (cost, (*wider, *steps[1:]), blocks)))
        self.assertGreater(told.count(True), 40)
        self.assertGreater(told.count(False), 40)

    def test_further_blocks(self):
        random = Random(248)
        told = []
        for plain, placing, (cost, steps, blocks) in self.papers(249, 40):
            places = [None, *range(plain.machines)]
            for _ in range(20):
                where = tuple(random.choice(places) for _ in plain.table.pieces)
                machines = random.choice(subsets(range(plain.machines)))
                data = random.choice(data_of(plain.table.prime, plain.table.size))
                told.append(self.check(plain, placing, (cost, steps, (*blocks, (where, machines, data)))))
            for where in [(plain.machines,), (-1,), (True,), ("0",), (None, None)]:
                block = (where + (0,) * (len(plain.table) - 1), tuple(range(plain.machines)), (1,) * plain.table.size)
                self.assertFalse(self.check(plain, placing, (cost, steps, (*blocks, block))))
            everything = ((0,) * len(plain.table), tuple(range(plain.machines)), (1,) * plain.table.size)
            self.assertTrue(self.check(plain, placing, (cost, steps, (*blocks, everything))))
        self.assertGreater(min(told.count(True), told.count(False)), 100)

    def test_papers_of_other_questions(self):
        for plain, placing, paper in self.papers(245, 60):
            for low, high, limit in [(1, plain.high, plain.limit), (plain.low, plain.high + 1, plain.limit),
                                     (plain.low, plain.high, plain.limit - 1), (0, 0, 6)]:  # fmt: skip
                other = Plain(plain.table, plain.prices, plain.machines, low, high, max(0, limit), plain.closed)
                self.check(other, placing, paper)

    def test_all_short_lists_of_steps(self):
        for plain, placing, (cost, steps, blocks) in self.papers(246, 30):
            if len(steps) > 2:
                continue
            pairs = [(piece, machine) for piece in range(len(plain.table)) for machine in range(plain.machines)]
            for chosen in [[pair] for pair in pairs] + [[one, two] for one in pairs for two in pairs]:
                where, made, total = placing.where, [], 0
                for piece, machine in chosen:
                    reads = plain.reads(where, piece) or (0, ())
                    made.append((piece, machine, reads[1]))
                    total += reads[0]
                    where = (*where[:piece], machine, *where[piece + 1 :])
                self.check(plain, placing, (total, tuple(made), blocks))

    def test_pieces_that_cannot_be_had_are_not_taken(self):
        # Piece 0 is gone for good at low 0: the first placing is blocked, but without blocks steps go on behind it.
        table = Table(2, 1, [[(1,)], [(0,)]])
        prices = Prices([[1], [1]], [1, 1], [0, 0])
        for low in [0, 1]:
            for value in [(0, (), ()), (0, ((0, 0, ()),), ()), (1, ((1, 0, ((1, 0),)),), ())]:
                self.assertIs(is_way(table, prices, Placing(2, [None, 1]), low, 0, 2, value), False)

    def test_no_way_is_not_raised(self):
        for value in [None, (0, (), ())]:
            self.assertIs(is_way(TABLE, PRICES, Placing(1, [0] * 4), 1, 0, 4, value), False)
            self.assertIs(is_way(TABLE, PRICES, Placing(1, [0] * 4), 0, 1, 4, value), False)
        self.assertIs(is_way(TABLE, PRICES, Placing(1, [0] * 4), 0, 0, 4, (0, (), ())), True)
        self.assertIs(is_way(TABLE, PRICES, Placing(1, [0] * 4), 0, 0, 4, (False, (), ())), False)

    def test_any_object(self):
        paper = move(TABLE, PRICES, PLACING, 0, 1, 2, [0])
        self.assertIs(is_way(TABLE, PRICES, PLACING, 0, 1, 2, paper, [0]), True)
        self.assertIs(is_way(TABLE, PRICES, PLACING, 0, 1, 2, paper, closed=(0,)), True)
        for value in ODD + [0, [], (), paper[:2], list(paper)]:
            self.assertIs(is_way(TABLE, PRICES, PLACING, 0, 1, 2, value, [0]), False)
        for place in range(3):
            for odd in ODD + [0, -1, [], 10**25]:
                value = paper[:place] + (odd,) + paper[place + 1 :]
                self.assertIs(is_way(TABLE, PRICES, PLACING, 0, 1, 2, value, [0]), False)

    def test_errors_in_order(self):
        for cost in ODD + [0, TABLE, SHORT, NET]:
            self.assertIs(raised(InvalidCost, is_way, TABLE, cost, None, None, None, None, None).value, cost)
        for placing in ODD + [0, (0, 0, 1, 2), Placing(3, [0, 1, 2])]:
            told = raised(InvalidPlacing, is_way, TABLE, PRICES, placing, None, None, None, None)
            self.assertIs(told.value, placing)
        for number in NO_INTEGERS + [-1, 7]:
            for numbers in [(number, None, None), (0, number, None), (0, 0, number)]:
                told = raised(InvalidNumber, is_way, TABLE, PRICES, PLACING, *numbers, None, None)
                self.assertIs(told.value, number)
        for closed in NO_LISTS + [[1, 0], [3], [True]]:
            told = raised(InvalidNumber, is_way, TABLE, PRICES, PLACING, 0, 0, 0, None, closed)
            self.assertIs(told.value, closed)
        wide = Table(2, 1, [[(1,)]] * 6)
        prices = Prices([[1]] * 6, [1] * 6, [0] * 6)
        self.assertEqual(raised(LimitExceeded, is_way, wide, prices, Placing(4, [0] * 6), 0, 0, 6, None).limit, 4096)

    def test_greatest_inputs_within_seconds(self):
        random = Random(247)
        for prime, size, machines, counts in [(2, 6, 3, [2, 2, 2, 2, 1, 1]), (3, 2, 3, [1] * 6), (2, 1, 6, [1] * 4),
                                              (2, 3, 4, [2] * 5)]:  # fmt: skip
            table = random_table(random, prime, size, counts)
            while not table.is_whole:
                table = random_table(random, prime, size, counts)
            prices = random_prices(random, table, 500)
            placing = Placing(machines, [0] * len(counts))
            for low, high in [(0, 0), (0, 1), (0, 2)]:
                paper = told_by(move, NoWay, table, prices, placing, low, high, 3)
                begun = time.monotonic()
                if paper is not None:
                    self.assertTrue(is_way(table, prices, placing, low, high, 3, paper))
                    is_way(table, prices, placing, low, high, 3, (*paper[:2], ()))
                self.assertLess(time.monotonic() - begun, 10)


class OrderAndChangeTest(unittest.TestCase):
    def test_the_order_of_pieces_changes_no_answer(self):
        random = Random(251)
        for table, prices, gone, wishes in read_cases(252, 40, random_prices):
            paper = told_by(least, Lost, table, prices, gone, wishes)
            if paper is None:
                continue
            order = random.sample(range(len(table)), len(table))
            other = table.ordered(order)
            costs = Prices(*[[row[piece] for piece in order] for row in (prices.parts, prices.wholes, prices.opens)])
            at = {(piece, part): (order.index(piece), part) for piece, part in table}
            spots, cost, combinations, blinds = paper.paper()
            moved = tuple(tuple(sorted((at[spot], factor) for spot, factor in row)) for row in combinations)
            value = (tuple(sorted(at[spot] for spot in spots)), cost, moved, blinds)
            self.assertTrue(is_least(other, costs, sorted(at[spot] for spot in gone), wishes, value))

    def test_doubled_blinds_are_right_where_they_are_not_zero(self):
        paper = least(TABLE, PRICES, [], [ONE]).paper()
        doubled = tuple(tuple(2 * value % 3 for value in data) for data in paper[3])
        self.assertTrue(is_least(TABLE, PRICES, [], [ONE], (*paper[:3], doubled)))
        self.assertEqual([value_of(3, (1, 0), data) == 0 for data in doubled], [False] * len(doubled))


if __name__ == "__main__":
    unittest.main()
