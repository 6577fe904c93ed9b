"""Checks the names, arguments and conventions of all that the interface lists for the files that stand."""

import ast
import inspect
import unittest
from importlib import import_module

from leastreads.costs import Prices
from leastreads.errors import InvalidData, LeastError
from leastreads.ground import fatal, have
from leastreads.moves import move
from leastreads.nets import Net, sent
from leastreads.placings import Placing, best_placing, fatal_machines, survival
from leastreads.reads import cheaper, extras, least
from leastreads.rebuilds import in_order, together
from leastreads.scrubs import scrub
from leastreads.spaces import Space
from leastreads.stored import Stored
from leastreads.sums import Sum
from leastreads.tables import Table
from leastreads.wrong import agreed, explanations, strength
from support import ODD, raised
from test_language import TREES

FUNCTIONS = {
    "sums": ["is_prime(value)", "is_size(prime, value)", "is_data(prime, size, value)", "all_data(prime, size)"],
    "ground": ["have(table, spots, item)", "is_have(table, spots, item, value)", "fatal(table, wishes)"],
    "nets": ["sent(net, table, combination, stored)"],
    "reads": [
        "least(table, cost, gone, wishes)", "extras(table, cost, gone, spots)", "cheaper(table, cost, gone, bound)",
    ],
    "rebuilds": ["together(table, cost, pieces)", "in_order(table, cost, pieces)"],
    "wrong": [
        "clash(table, stored)", "explanations(table, stored)", "agreed(table, stored, wishes)",
        "strength(table, gone=())",
    ],
    "scrubs": ["scrub(table, cost, gone, watched, most=1)"],
    "placings": [
        "survival(table, placing)", "fatal_machines(table, placing)", "best_placing(table, machines, limit)",
    ],
    "moves": ["move(table, cost, placing, low, high, limit, closed=())"],
}  # fmt: skip
CLASSES = {
    "sums": {"Sum": ["__init__(self, prime, factors)", "unit(prime, size, index)", "__call__(self, data)"]},
    "stored": {
        "Stored": [
            "__init__(self, pieces)", "without(self, pieces)", "bent(self, piece, values)", "fits(self, table)",
        ]
    },
    "spaces": {
        "Space": [
            "__init__(self, prime, size, sums=())", "within(self, other)", "blind_data(self, item)", "zeros(self)",
        ]
    },
    "tables": {
        "Table": [
            "__init__(self, prime, size, pieces)", "__call__(self, data)", "space(self, spots=None)",
            "spots_of(self, pieces)", "ordered(self, order)",
        ]
    },
    "costs": {
        "Prices": [
            "__init__(self, parts, wholes, opens)", "fits(self, table)", "__call__(self, spots)", "paid(self, spots)",
        ]
    },
    "nets": {
        "Net": [
            "__init__(self, prices, racks, links, home)", "fits(self, table)", "__call__(self, spots)",
            "paid(self, spots)", "tree(self, spots)",
        ]
    },
    "reads": {"Reads": ["paper(self)", "__call__(self, stored)"]},
    "placings": {
        "Placing": [
            "__init__(self, machines, where)", "on(self, machine)", "moved(self, piece, machine)",
            "without(self, machines)",
        ]
    },
}  # fmt: skip
TABLE = Table(3, 2, [[(1, 0)], [(0, 1)], [(1, 1)], [(1, 2)]])
PRICES = Prices([[5], [2], [2], [3]], [9, 9, 9, 9], [0, 0, 0, 0])
ONE = Sum(3, (1, 0))
NET = Net(PRICES, [0, 1, 2, 0], [(0, 1, 5), (0, 2, 9), (1, 2, 2)], 0)
BENT = Stored([(2,), (0,), (0,), (1,)])
PLACING = Placing(3, [0, 0, 1, 2])


def signature(call):
    """Return a call's name and parameters as the interface writes them."""
    rows = [f"{item.name}" if item.default is item.empty else f"{item.name}={item.default!r}"
            for item in inspect.signature(call).parameters.values()]  # fmt: skip
    return f"{call.__name__}({', '.join(rows)})"


def calls():
    """Return a list of (function, lists that are passed, other arguments in order, None where a list stands)."""
    return [
        (have, [[(1, 0), (2, 0)]], [TABLE, None, ONE]),
        (fatal, [[ONE]], [TABLE, None]),
        (least, [[(0, 0)], [ONE, Sum(3, (0, 1))]], [TABLE, PRICES, None, None]),
        (least, [[(0, 0)], [ONE]], [TABLE, NET, None, None]),
        (extras, [[(0, 0)], [(0, 0), (2, 0)]], [TABLE, PRICES, None, None]),
        (together, [[0, 2]], [TABLE, PRICES, None]),
        (in_order, [[0, 2]], [TABLE, PRICES, None]),
        (agreed, [[ONE]], [TABLE, BENT, None]),
        (strength, [[1]], [TABLE, None]),
        (scrub, [[(1, 0)], [0]], [TABLE, PRICES, None, None]),
        (move, [[0]], [TABLE, PRICES, PLACING, 0, 1, 2, None]),
        (Net, [[0, 1, 2, 0], [(0, 1, 5), (1, 2, 2)]], [PRICES, None, None, 0]),
        (Placing, [[0, None, 1]], [2, None]),
        (PLACING.without, [[0, 2]], [None]),
        (NET, [[(1, 0), (2, 0)]], [None]),
        (NET.tree, [[(1, 0), (2, 0)]], [None]),
        (NET.paid, [[(1, 0), (2, 0)]], [None]),
        (lambda gone: list(cheaper(TABLE, PRICES, gone, 9)), [[(0, 0)]], [None]),
    ]


def filled(arguments, lists):
    """Return the arguments with the lists in the places of None."""
    left = list(lists)
    return [left.pop(0) if item is None else item for item in arguments]


class InterfaceTest(unittest.TestCase):
    def test_functions_and_their_parameters(self):
        for name, rows in FUNCTIONS.items():
            module = import_module(f"leastreads.{name}")
            defined = [node.name for node in TREES[name].body if isinstance(node, ast.FunctionDef)]
            for row in rows:
                called = row.partition("(")[0]
                self.assertIn(called, defined)
                self.assertEqual(signature(getattr(module, called)), row)

    def test_classes_and_their_methods(self):
        for name, classes in CLASSES.items():
            module = import_module(f"leastreads.{name}")
            for node in TREES[name].body:
                if isinstance(node, ast.ClassDef) and node.name in classes:
                    defined = [row.name for row in node.body if isinstance(row, ast.FunctionDef)]
                    for row in classes[node.name]:
                        called = row.partition("(")[0]
                        self.assertIn(called, defined)
                        self.assertEqual(signature(getattr(getattr(module, node.name), called)), row)
            self.assertTrue(all(isinstance(getattr(module, called), type) for called in classes))


class ConventionsTest(unittest.TestCase):
    def test_lists_and_tuples_have_the_same_result(self):
        for call, lists, arguments in calls():
            told = call(*filled(arguments, lists))
            self.assertEqual(told, call(*filled(arguments, [tuple(item) for item in lists])), call)

    def test_lists_that_are_passed_stay_and_have_no_further_effect(self):
        for call, lists, arguments in calls():
            copies = [list(item) for item in lists]
            told = call(*filled(arguments, lists))
            shown = [told, repr(told)]
            self.assertEqual(lists, copies)
            again = call(*filled(arguments, copies))
            for item in lists:
                item.clear()
            self.assertEqual([told, repr(told)], shown)
            self.assertEqual(told, again)

    def test_equal_calls_have_equal_results(self):
        for call, lists, arguments in calls():
            self.assertEqual(call(*filled(arguments, lists)), call(*filled(arguments, lists)))

    def test_returned_lists_are_new(self):
        reads = least(TABLE, NET, [(0, 0)], [ONE])
        makers = [
            lambda: fatal(TABLE, [ONE]),
            lambda: fatal_machines(TABLE, PLACING),
            lambda: sent(NET, TABLE, reads.combinations[0], TABLE((2, 1))),
        ]
        for make in makers:
            told = make()
            self.assertIs(type(told), list)
            self.assertTrue(told)
            copy = list(told)
            told.clear()
            self.assertEqual(make(), copy)

    def test_what_is_told_is_of_tuples(self):
        def check(value):
            self.assertNotIsInstance(value, (list, dict, set))
            for item in value if isinstance(value, tuple) else []:
                check(item)

        reads = least(TABLE, PRICES, [], [ONE])
        papers = [reads.paper(), reads(BENT), in_order(TABLE, PRICES, [0, 1]), explanations(TABLE, BENT)]
        papers += [agreed(TABLE, BENT, [ONE]), strength(TABLE), scrub(TABLE, PRICES, [], [0])]
        papers += [best_placing(TABLE, 3, 2), move(TABLE, PRICES, PLACING, 0, 1, 2, [0]), NET.tree([(1, 0)])]
        papers += [fatal_machines(TABLE, PLACING)[0], NET.racks, NET.links, PLACING.where, PLACING.on(0)]
        for paper in papers:
            self.assertIs(type(paper), tuple)
            check(paper)
        self.assertIs(type(survival(TABLE, PLACING)), int)

    def test_no_object_equals_one_of_another_class(self):
        reads = least(TABLE, PRICES, [], [ONE])
        things = [TABLE, PRICES, NET, ONE, BENT, PLACING, reads, Space(3, 2, [ONE])]
        others = [reads.paper(), PLACING.where, BENT.pieces, TABLE.pieces, ONE.factors, PRICES.parts, *ODD]
        for place, one in enumerate(things):
            for other in things[:place] + things[place + 1 :]:
                self.assertFalse(one == other)
                self.assertTrue(one != other)
            self.assertTrue(one == one)
            self.assertFalse(any(one.__eq__(other) for other in others))

    def test_errors_tell_the_object_that_is_wrong(self):
        wrong = []
        error = raised(InvalidData, TABLE, wrong)
        self.assertIs(error.value, wrong)
        self.assertIsInstance(error, LeastError)


if __name__ == "__main__":
    unittest.main()
