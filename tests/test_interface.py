"""Checks the names, arguments and conventions of all that the interface lists for the files that stand."""

import ast
import inspect
import unittest
from importlib import import_module

from leastreads.console import Console
from leastreads.costs import Prices
from leastreads.errors import InvalidData, LeastError
from leastreads.ground import fatal, have, is_have
from leastreads.journal import read_journal, write_journal
from leastreads.judged import alike, fewest_touches, is_alike, is_fewest_touches, rebased, sizes, touches
from leastreads.moves import move
from leastreads.nets import Net, sent
from leastreads.papers import is_barred, is_explained, is_least, is_scrub, is_way
from leastreads.placings import Placing, best_placing, fatal_machines, survival
from leastreads.reads import cheaper, extras, least
from leastreads.rebuilds import in_order, together
from leastreads.scrubs import scrub
from leastreads.spaces import Space
from leastreads.store import Store
from leastreads.stored import Stored
from leastreads.sums import Sum, all_data, is_data, is_prime, is_size
from leastreads.tables import Table
from leastreads.texts import certify, check, read_cost, read_table, write_cost, write_table
from leastreads.writes import (
    is_safe_order, mixed, new_wishes, old_wishes, recover, remainders, rewritten, safe_order, touched, unsafe,
    write_reads,
)  # fmt: skip
from leastreads.wrong import agreed, clash, explanations, strength
from support import ODD, raised
from test_language import TREES

FUNCTIONS = {
    "sums": ["is_prime(value)", "is_size(prime, value)", "is_data(prime, size, value)", "all_data(prime, size)"],
    "ground": ["have(table, spots, item)", "is_have(table, spots, item, value)", "fatal(table, wishes)"],
    "nets": ["sent(net, table, combination, stored)"],
    "reads": [
        "least(table, cost, gone, wishes)", "extras(table, cost, gone, spots)", "cheaper(table, cost, gone, bound)",
    ],
    "rebuilds": ["together(table, cost, pieces)", "in_order(table, cost, pieces)"],
    "wrong": [
        "clash(table, stored)", "explanations(table, stored)", "agreed(table, stored, wishes)",
        "strength(table, gone=())",
    ],
    "scrubs": ["scrub(table, cost, gone, watched, most=1)"],
    "placings": [
        "survival(table, placing)", "fatal_machines(table, placing)", "best_placing(table, machines, limit)",
    ],
    "moves": ["move(table, cost, placing, low, high, limit, closed=())"],
    "papers": [
        "is_least(table, cost, gone, wishes, value)", "is_explained(table, stored, value)",
        "is_scrub(table, cost, gone, watched, value, most=1)", "is_barred(table, machines, limit, survival, value)",
        "is_way(table, cost, placing, low, high, limit, value, closed=())",
    ],
    "writes": [
        "touched(table, changed)", "mixed(table, changed, written)", "old_wishes(table, changed)",
        "new_wishes(table, changed)", "remainders(table, changed, gone=())",
        "write_reads(table, cost, changed, gone=())", "rewritten(table, changed, values, stored, remaining)",
        "unsafe(table, changed, written, most, gone=())", "safe_order(table, changed, most, gone=())",
        "is_safe_order(table, changed, most, value, gone=())", "recover(table, changed, stored, written)",
    ],
    "journal": ["write_journal(store)", "read_journal(table, cost, machines, text)"],
    "judged": [
        "alike(one, other)", "is_alike(one, other, value)", "sizes(table)", "touches(table, data)",
        "fewest_touches(table)", "is_fewest_touches(table, value)", "rebased(table, base)",
    ],
    "texts": [
        "write_table(table)", "read_table(text)", "write_cost(cost)", "read_cost(text)",
        "certify(table, cost, gone, wishes)", "check(text)",
    ],
}  # fmt: skip
CLASSES = {
    "sums": {"Sum": ["__init__(self, prime, factors)", "unit(prime, size, index)", "__call__(self, data)"]},
    "stored": {
        "Stored": [
            "__init__(self, pieces)", "without(self, pieces)", "bent(self, piece, values)", "fits(self, table)",
        ]
    },
    "spaces": {
        "Space": [
            "__init__(self, prime, size, sums=())", "within(self, other)", "blind_data(self, item)", "zeros(self)",
        ]
    },
    "tables": {
        "Table": [
            "__init__(self, prime, size, pieces)", "__call__(self, data)", "space(self, spots=None)",
            "spots_of(self, pieces)", "ordered(self, order)",
        ]
    },
    "costs": {
        "Prices": [
            "__init__(self, parts, wholes, opens)", "fits(self, table)", "__call__(self, spots)", "paid(self, spots)",
        ]
    },
    "nets": {
        "Net": [
            "__init__(self, prices, racks, links, home)", "fits(self, table)", "__call__(self, spots)",
            "paid(self, spots)", "tree(self, spots)",
        ]
    },
    "reads": {"Reads": ["paper(self)", "__call__(self, stored)"]},
    "placings": {
        "Placing": [
            "__init__(self, machines, where)", "on(self, machine)", "moved(self, piece, machine)",
            "without(self, machines)",
        ]
    },
    "store": {
        "Store": [
            "__init__(self, table, cost, machines)", "names(self)", "put(self, name, rows, where)", "drop(self, name)",
            "read(self, name, row)", "checked(self, name, row)", "mended(self, name, row)", "scrub(self, name)",
            "write(self, name, row, changes, crash=None)", "recover(self, mending=False)", "loss(self, machine)",
            "renew(self, machine)", "spoil(self, name, row, piece, values)", "heal(self, name, row)",
            "rebuild(self, name, piece, machine)", "shift(self, name, piece, machine)", "danger(self, name)",
            "queue(self)", "history(self)", "undo(self)", "trial(self)", "attempt(self, visitor)", "copy(self)",
        ]
    },
    "console": {"Console": ["__init__(self)", "run(self, command)"]},
}  # fmt: skip
PROPERTIES = {
    "Sum": "prime factors size is_zero", "Stored": "pieces gone", "Space": "reduced_sums prime size is_whole",
    "Table": "prime size pieces is_whole", "Prices": "parts wholes opens", "Net": "prices racks links home",
    "Reads": "spots cost combinations blinds", "Placing": "machines where", "Store": "table cost machines broken halted",
}  # fmt: skip
SIGNS = {
    "Sum": "__call__ __add__ __sub__ __mul__ __neg__ __eq__", "Reads": "__call__ __eq__", "Net": "__call__ __eq__",
    "Stored": "__len__ __iter__ __contains__ __getitem__ __sub__ __eq__", "Prices": "__call__ __eq__",
    "Space": "__contains__ __len__ __iter__ __eq__ __or__ __and__", "Placing": "__getitem__ __iter__ __eq__",
    "Table": "__len__ __iter__ __contains__ __getitem__ __eq__ __call__", "Store": "__len__ __contains__ __getitem__ __eq__",
}  # fmt: skip
TABLE = Table(3, 2, [[(1, 0)], [(0, 1)], [(1, 1)], [(1, 2)]])
PRICES = Prices([[5], [2], [2], [3]], [9, 9, 9, 9], [0, 0, 0, 0])
ONE = Sum(3, (1, 0))
NET = Net(PRICES, [0, 1, 2, 0], [(0, 1, 5), (0, 2, 9), (1, 2, 2)], 0)
BENT = Stored([(2,), (0,), (0,), (1,)])
PLACING = Placing(3, [0, 0, 1, 2])
TEXT = "0 2761 loss 1\n"


def new_store():
    """Return a store with an object."""
    store = Store(TABLE, PRICES, 4)
    store.put("one", [(2, 1), (0, 0)], [0, 1, 2, 3])
    return store


def signature(call):
    """Return a call's name and parameters as the interface writes them."""
    rows = [f"{item.name}" if item.default is item.empty else f"{item.name}={item.default!r}"
            for item in inspect.signature(call).parameters.values()]  # fmt: skip
    return f"{call.__name__}({', '.join(rows)})"


def calls():
    """Return a list of (function, lists that are passed, other arguments in order, None where a list stands)."""
    return [
        (have, [[(1, 0), (2, 0)]], [TABLE, None, ONE]),
        (fatal, [[ONE]], [TABLE, None]),
        (least, [[(0, 0)], [ONE, Sum(3, (0, 1))]], [TABLE, PRICES, None, None]),
        (least, [[(0, 0)], [ONE]], [TABLE, NET, None, None]),
        (extras, [[(0, 0)], [(0, 0), (2, 0)]], [TABLE, PRICES, None, None]),
        (together, [[0, 2]], [TABLE, PRICES, None]),
        (in_order, [[0, 2]], [TABLE, PRICES, None]),
        (agreed, [[ONE]], [TABLE, BENT, None]),
        (strength, [[1]], [TABLE, None]),
        (scrub, [[(1, 0)], [0]], [TABLE, PRICES, None, None]),
        (move, [[0]], [TABLE, PRICES, PLACING, 0, 1, 2, None]),
        (Net, [[0, 1, 2, 0], [(0, 1, 5), (1, 2, 2)]], [PRICES, None, None, 0]),
        (Placing, [[0, None, 1]], [2, None]),
        (PLACING.without, [[0, 2]], [None]),
        (NET, [[(1, 0), (2, 0)]], [None]),
        (NET.tree, [[(1, 0), (2, 0)]], [None]),
        (NET.paid, [[(1, 0), (2, 0)]], [None]),
        (lambda gone: list(cheaper(TABLE, PRICES, gone, 9)), [[(0, 0)]], [None]),
        (is_have, [[(1, 0), (2, 0)]], [TABLE, None, ONE, have(TABLE, [(1, 0), (2, 0)], ONE)]),
        (is_least, [[(0, 0)], [ONE]], [TABLE, PRICES, None, None, least(TABLE, PRICES, [(0, 0)], [ONE]).paper()]),
        (is_scrub, [[(1, 0)], [0]], [TABLE, PRICES, None, None, scrub(TABLE, PRICES, [(1, 0)], [0])]),
        (is_way, [[0]], [TABLE, PRICES, PLACING, 0, 1, 2, move(TABLE, PRICES, PLACING, 0, 1, 2, [0]), None]),
        (touched, [[0]], [TABLE, None]),
        (mixed, [[0], [1, 2]], [TABLE, None, None]),
        (old_wishes, [[0]], [TABLE, None]),
        (new_wishes, [[0]], [TABLE, None]),
        (remainders, [[0], [1]], [TABLE, None, None]),
        (write_reads, [[0], [1]], [TABLE, PRICES, None, None]),
        (rewritten, [[0], [2], [0, 1, 2]], [TABLE, None, None, BENT, None]),
        (unsafe, [[0], [2], [1]], [TABLE, None, None, 1, None]),
        (safe_order, [[0], [1]], [TABLE, None, 0, None]),
        (is_safe_order, [[0], [1]], [TABLE, None, 0, safe_order(TABLE, [0], 0, [1]), None]),
        (recover, [[0], [2]], [TABLE, None, TABLE((2, 1)), None]),
        (touches, [[1, 2]], [TABLE, None]),
        (certify, [[(0, 0)], [ONE]], [TABLE, PRICES, None, None]),
        (put_and_read, [[(1, 2), (0, 1)], [3, 2, 1, 0]], [None, None]),
        (written_and_read, [[(0, 1), (1, 2)]], [None]),
        (spoiled_and_read, [[2]], [None]),
    ]


def put_and_read(rows, where):
    """Return what a store tells of what was put."""
    store = new_store()
    store.put("two", rows, where)
    return store["two"], store.read("two", 1), store.history()


def written_and_read(changes):
    store = new_store()
    return store.write("one", 0, changes, 1), store["one"], store.history()


def spoiled_and_read(values):
    store = new_store()
    store.spoil("one", 0, 0, values)
    return store["one"], store.history()


def filled(arguments, lists):
    """Return the arguments with the lists in the places of None."""
    left = list(lists)
    return [left.pop(0) if item is None else item for item in arguments]


class InterfaceTest(unittest.TestCase):
    def test_functions_and_their_parameters(self):
        for name, rows in FUNCTIONS.items():
            module = import_module(f"leastreads.{name}")
            defined = [node.name for node in TREES[name].body if isinstance(node, ast.FunctionDef)]
            for row in rows:
                called = row.partition("(")[0]
                self.assertIn(called, defined)
                self.assertEqual(signature(getattr(module, called)), row)

    def test_classes_and_their_methods(self):
        for name, classes in CLASSES.items():
            module = import_module(f"leastreads.{name}")
            for node in TREES[name].body:
                if isinstance(node, ast.ClassDef) and node.name in classes:
                    defined = [row.name for row in node.body if isinstance(row, ast.FunctionDef)]
                    for row in classes[node.name]:
                        called = row.partition("(")[0]
                        self.assertIn(called, defined)
                        self.assertEqual(signature(getattr(getattr(module, node.name), called)), row)
            self.assertTrue(all(isinstance(getattr(module, called), type) for called in classes))

    def test_properties_and_signs(self):
        classes = {node.name: node for tree in TREES.values() for node in tree.body if isinstance(node, ast.ClassDef)}
        for told, is_property in [(PROPERTIES, True), (SIGNS, False)]:
            for name, words in told.items():
                rows = {row.name: row for row in classes[name].body if isinstance(row, ast.FunctionDef)}
                for word in words.split():
                    self.assertEqual([ast.unparse(item) for item in rows[word].decorator_list], ["property"] * is_property)

    def test_each_argument_by_its_name_in_any_order(self):
        paper = least(TABLE, PRICES, [], [ONE]).paper()
        store = new_store()
        named = [
            (is_prime, {"value": 3}, True), (is_size, {"value": 6, "prime": 3}, True),
            (is_data, {"value": (0, 1), "size": 2, "prime": 3}, True), (have, {"item": ONE, "spots": [(0, 0)], "table": TABLE}, None),
            (least, {"wishes": [ONE], "gone": [], "cost": PRICES, "table": TABLE}, None),
            (is_least, {"value": paper, "wishes": [ONE], "gone": [], "cost": PRICES, "table": TABLE}, True),
            (is_explained, {"value": explanations(TABLE, BENT), "stored": BENT, "table": TABLE}, True),
            (is_scrub, {"most": 2, "value": scrub(TABLE, PRICES, [], [0], 2), "watched": [0], "gone": [], "cost": PRICES, "table": TABLE}, True),
            (is_barred, {"value": best_placing(TABLE, 3, 2)[2], "survival": 1, "limit": 2, "machines": 3, "table": TABLE}, True),
            (is_way, {"closed": (), "value": (0, (), ()), "limit": 2, "high": 0, "low": 0, "placing": PLACING, "cost": PRICES, "table": TABLE}, True),
            (safe_order, {"gone": (), "most": 0, "changed": [0], "table": TABLE}, ("order", (0, 2, 3))),
            (is_safe_order, {"gone": (), "value": ("order", (0, 2, 3)), "most": 0, "changed": [0], "table": TABLE}, True),
            (unsafe, {"gone": (), "most": 0, "written": (), "changed": [0], "table": TABLE}, None),
            (alike, {"other": TABLE, "one": TABLE}, None), (is_alike, {"value": None, "other": TABLE, "one": TABLE}, False),
            (is_fewest_touches, {"value": fewest_touches(TABLE), "table": TABLE}, True), (sizes, {"table": TABLE}, None),
            (rebased, {"base": ((1, 0), (0, 1)), "table": TABLE}, TABLE), (clash, {"stored": BENT, "table": TABLE}, None),
            (read_journal, {"text": TEXT, "machines": 4, "cost": PRICES, "table": TABLE}, None),
            (write_journal, {"store": store}, None), (check, {"text": certify(TABLE, PRICES, [], [ONE])}, True),
            (read_table, {"text": write_table(TABLE)}, TABLE), (read_cost, {"text": write_cost(cost=NET)}, NET),
            (store.write, {"crash": None, "changes": [(0, 1)], "row": 0, "name": "one"}, 2),
            (store.spoil, {"values": [2], "piece": 0, "row": 0, "name": "one"}, None),
            (store.heal, {"row": 0, "name": "one"}, (0,)), (store.read, {"row": 1, "name": "one"}, ((0, 0), 4)),
            (store.shift, {"machine": 3, "piece": 0, "name": "one"}, 8), (store.put, {"where": [0] * 4, "rows": [(0, 1)], "name": "a"}, None),
            (Console().run, {"command": "table table 3 2; piece 1,0"}, "ok"), (store.attempt, {"visitor": len}, 2),
        ]  # fmt: skip
        for call, arguments, right in named:
            told = call(**arguments)
            if right is not None:
                self.assertEqual(told, right, call)

    def test_calls_of_which_no_result_is_told_return_none(self):
        store = new_store()
        calls = [lambda: store.put("two", [(0, 0)], [0] * 4), lambda: store.drop("two"), lambda: store.loss(0),
                 lambda: store.renew(0), lambda: store.spoil("one", 0, 1, [0]), store.undo]  # fmt: skip
        self.assertEqual([call() for call in calls], [None] * 6)


class ConventionsTest(unittest.TestCase):
    def test_lists_and_tuples_have_the_same_result(self):
        for call, lists, arguments in calls():
            told = call(*filled(arguments, lists))
            self.assertEqual(told, call(*filled(arguments, [tuple(item) for item in lists])), call)

    def test_lists_that_are_passed_stay_and_have_no_further_effect(self):
        for call, lists, arguments in calls():
            copies = [list(item) for item in lists]
            told = call(*filled(arguments, lists))
            shown = [told, repr(told)]
            self.assertEqual(lists, copies)
            again = call(*filled(arguments, copies))
            for item in lists:
                item.clear()
            self.assertEqual([told, repr(told)], shown)
            self.assertEqual(told, again)

    def test_equal_calls_have_equal_results(self):
        for call, lists, arguments in calls():
            self.assertEqual(call(*filled(arguments, lists)), call(*filled(arguments, lists)))

    def test_returned_lists_are_new(self):
        reads = least(TABLE, NET, [(0, 0)], [ONE])
        store = new_store()
        store.loss(3)
        store.spoil("one", 0, 0, [0])
        makers = [
            lambda: fatal(TABLE, [ONE]),
            lambda: fatal_machines(TABLE, PLACING),
            lambda: sent(NET, TABLE, reads.combinations[0], TABLE((2, 1))),
            lambda: old_wishes(TABLE, [0]),
            lambda: new_wishes(TABLE, [0]),
            lambda: remainders(TABLE, [0]),
            lambda: safe_order(TABLE, [0], 3)[1],
            lambda: sizes(TABLE),
            new_store().names,
            new_store().history,
            lambda: store.scrub("one"),
            store.queue,
        ]
        for make in makers:
            told = make()
            self.assertIs(type(told), list)
            self.assertTrue(told)
            copy = list(told)
            told.clear()
            self.assertEqual(make(), copy)

    def test_what_is_told_is_of_tuples(self):
        def check(value):
            self.assertNotIsInstance(value, (list, dict, set))
            for item in value if isinstance(value, tuple) else []:
                check(item)

        reads = least(TABLE, PRICES, [], [ONE])
        papers = [reads.paper(), reads(BENT), in_order(TABLE, PRICES, [0, 1]), explanations(TABLE, BENT)]
        papers += [agreed(TABLE, BENT, [ONE]), strength(TABLE), scrub(TABLE, PRICES, [], [0])]
        papers += [best_placing(TABLE, 3, 2), move(TABLE, PRICES, PLACING, 0, 1, 2, [0]), NET.tree([(1, 0)])]
        papers += [fatal_machines(TABLE, PLACING)[0], NET.racks, NET.links, PLACING.where, PLACING.on(0)]
        papers += [touched(TABLE, [0]), unsafe(TABLE, [0], [], 3), safe_order(TABLE, [0], 0), fewest_touches(TABLE)]
        papers += [recover(TABLE, [0], TABLE((2, 1)), []), alike(TABLE, TABLE), new_store().read("one", 0), new_store()["one"]]
        papers += [new_store().danger("one"), new_store().history()[0], new_store().heal("one", 0), new_store().broken]
        for paper in papers:
            self.assertIs(type(paper), tuple)
            check(paper)
        self.assertIs(type(survival(TABLE, PLACING)), int)

    def test_no_object_equals_one_of_another_class(self):
        reads = least(TABLE, PRICES, [], [ONE])
        things = [TABLE, PRICES, NET, ONE, BENT, PLACING, reads, Space(3, 2, [ONE]), new_store()]
        others = [reads.paper(), PLACING.where, BENT.pieces, TABLE.pieces, ONE.factors, PRICES.parts, *ODD]
        for place, one in enumerate(things):
            for other in things[:place] + things[place + 1 :]:
                self.assertFalse(one == other)
                self.assertTrue(one != other)
            self.assertTrue(one == one)
            self.assertFalse(any(one.__eq__(other) for other in others))
            self.assertFalse(Console() == one)
        self.assertFalse(Console() == Console())

    def test_errors_tell_the_object_that_is_wrong(self):
        wrong = []
        error = raised(InvalidData, TABLE, wrong)
        self.assertIs(error.value, wrong)
        self.assertIsInstance(error, LeastError)


if __name__ == "__main__":
    unittest.main()
