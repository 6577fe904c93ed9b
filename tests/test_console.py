import time
import unittest
from random import Random

from leastreads.console import Console
from leastreads.costs import Prices
from leastreads.errors import (
    InvalidChange, InvalidCommand, InvalidCost, InvalidNumber, InvalidPieces, InvalidSpots, InvalidSum, InvalidTable,
    InvalidText, InvalidWishes, LimitExceeded, Lost, NoTable,
)  # fmt: skip
from leastreads.ground import fatal
from leastreads.reads import least
from leastreads.sums import Sum
from leastreads.tables import Table
from leastreads.texts import write_cost, write_table
from leastreads.wrong import strength
from leastreads.writes import safe_order, touched
from net_support import random_net, random_prices
from support import ODD, EqualToAll, raised, random_sublist, random_table, subsets

TABLE_COMMAND = "table table 3 2; piece 1,0; piece 0,1; piece 1,1"
COMMANDS = ["show", "least 0.0 1,0", "strength -", "fatal 1,0", "touched 0", "order 0 0"]


def with_table(*commands):
    """Return a console behind some commands."""
    console = Console()
    for command in [TABLE_COMMAND, *commands]:
        console.run(command)
    return console


def lines_of(text):
    return text.replace("\n", "; ")


def listed(numbers):
    return ",".join(str(number) for number in numbers) or "-"


class AnswersTest(unittest.TestCase):
    def test_example(self):
        console = Console()
        commands = [TABLE_COMMAND, "least 0.0 1,0", "least 0.0,1.0 1,0", "strength -", "order 0 0"]
        self.assertEqual([console.run(command) for command in commands], ["ok", "2 1.0 2.0", "lost 1,2", "2", "0,2"])

    def test_each_command(self):
        console = with_table()
        told = {
            "show": "table 3 2; piece 1,0; piece 0,1; piece 1,1", "least - 1,0": "1 0.0", "least - 0,0": "0",
            "least 0.0,1.0,2.0 0,0": "0", "least - 1,0 0,1": "2 0.0 1.0", "least 2.0 1,1 1,0": "2 0.0 1.0", "strength 0": "1",
            "strength 0,1": "0", "strength 0,1,2": "0", "fatal 1,0": "0,1 0,2", "fatal 0,0": "-", "fatal 1,0 0,1": "0,1 0,2 1,2",
            "touched 0": "0,2", "touched 0,1": "0,1,2", "order 1 0": "none", "order 0 0,1": "0,1,2", "order 3 1": "none",
        }  # fmt: skip
        for command, answer in told.items():
            self.assertEqual(console.run(command=command), answer, command)

    def test_lists_that_are_empty(self):
        console = Console()
        console.run("table table 3 2; piece 0,1; piece 0,2 0,0")
        # Even with all pieces there the first value cannot be had, and nothing is touched by its change.
        self.assertEqual([console.run(f"{word} 1,0") for word in ["fatal", "least -"]], ["-", "lost 1,0"])
        self.assertEqual((console.run("touched 0"), console.run("order 0 0"), console.run("strength -")), ("-", "none", "0"))
        console.run("table table 3 1; piece 1; piece 1")
        self.assertEqual((console.run("fatal 1"), console.run("fatal 0"), console.run("least 0.0,1.0 0")), ("0,1", "-", "0"))
        console.run("table table 3 2; piece 1,0; piece 0,1")
        self.assertEqual(console.run("strength 0,1"), "0")

    def test_an_empty_order(self):
        console = Console()
        console.run("table table 2 2; piece 1,0; piece 1,0")
        self.assertEqual(console.run("order 0 1"), "none")
        self.assertEqual(safe_order(Table(2, 2, [[(1, 0)], [(1, 0)]]), [1], 0)[0], "blocked")

    def test_random_tables(self):
        random = Random(701)
        for number in range(80):
            table = random_table(random, *random.choice([(2, 2), (3, 2), (2, 3), (5, 1)]), random.choice([[1, 1, 1], [2, 1], [1, 2, 1]]))
            console = Console()
            self.assertEqual(console.run("table " + lines_of(write_table(table))), "ok")
            self.assertEqual(console.run("show"), lines_of(write_table(table)))
            cost = Prices([[1] * len(parts) for parts in table.pieces], [2] * len(table), [0] * len(table))
            if number % 3:
                cost = random_prices(random, table) if number % 3 == 1 else random_net(random, table)
                self.assertEqual(console.run("cost " + lines_of(write_cost(cost))), "ok")
            rows = [[random.randrange(table.prime) for _ in range(table.size)] for _ in range(1 if number % 3 == 2 else 2)]
            words = " ".join(listed(row) for row in rows)
            gone = random_sublist(random, table)
            try:
                reads = least(table, cost, gone, [Sum(table.prime, row) for row in rows])
                right = " ".join([str(reads.cost), *[f"{piece}.{part}" for piece, part in reads.spots]])
            except Lost as error:
                right = "lost " + listed(error.blind)
            self.assertEqual(console.run(f"least {','.join(f'{a}.{b}' for a, b in gone) or '-'} {words}"), right)
            sets = [listed(pieces) for pieces, _ in fatal(table, [Sum(table.prime, row) for row in rows])]
            self.assertEqual(console.run(f"fatal {words}"), " ".join(sets) or "-")
            pieces, changed = random.choice(subsets(range(len(table)))), random.choice(subsets(range(table.size))[1:])
            self.assertEqual(console.run(f"strength {listed(pieces)}"), str(strength(table, pieces)[0]))
            self.assertEqual(console.run(f"touched {listed(changed)}"), listed(touched(table, changed)))
            try:
                word, told = safe_order(table, changed, number % 2)
            except LimitExceeded:
                raised(LimitExceeded, console.run, f"order {number % 2} {listed(changed)}")
                continue
            self.assertEqual(console.run(f"order {number % 2} {listed(changed)}"), listed(told) if word == "order" else "none")

    def test_plain_prices_and_others(self):
        console = Console()
        console.run("table table 2 2; piece 1,0 0,1 1,1; piece 1,0; piece 0,1")
        self.assertEqual(console.run("least - 1,0 0,1"), "2 0.0 0.1")
        # A whole piece costs 2, also for its three parts, and opening costs nothing.
        other = Console()
        other.run("table table 2 3; piece 1,0,0 0,1,0 0,0,1; piece 1,1,1")
        self.assertEqual(other.run("least - 1,0,0 0,1,0 0,0,1"), "2 0.0 0.1 0.2")
        self.assertEqual(other.run("least 0.0 1,0,0 0,1,0 0,0,1"), "3 0.1 0.2 1.0")
        self.assertEqual(other.run("least - 1,1,1"), "1 1.0")
        console.run("cost prices; 0 9 5 5 5; 1 1 1; 0 1 1")
        self.assertEqual(console.run("least - 1,0 0,1"), "3 1.0 2.0")
        console.run("cost prices; 0 1 1 1 1; 0 1 1; 0 1 1; home 0; racks 1 0 0; link 0 1 7")
        self.assertEqual(console.run("least - 1,1"), "2 1.0 2.0")
        self.assertEqual(raised(InvalidWishes, console.run, "least - 1,1 1,0").value, (Sum(2, (1, 1)), Sum(2, (1, 0))))
        # Another table has the plain prices anew.
        console.run("table table 2 2; piece 1,0 0,1 1,1; piece 1,0; piece 0,1")
        self.assertEqual(console.run("least - 1,0 0,1"), "2 0.0 0.1")

    def test_consoles_are_independent(self):
        first, second = with_table(), Console()
        second.run("table table 2 1; piece 1")
        self.assertEqual((first.run("strength -"), second.run("strength -")), ("2", "1"))
        self.assertFalse(first == second)


class ErrorsTest(unittest.TestCase):
    def test_no_text_and_empty_words(self):
        for command in [item for item in ODD if not isinstance(item, str)] + [0, [], ["show"], b"show", EqualToAll()]:
            self.assertIsNone(raised(InvalidCommand, Console().run, command).word)
        for command in ["", " ", " show", "show ", "least  - 1,0", "table  table 3 2", "least - 1,0 ", "  nothing"]:
            self.assertIsNone(raised(InvalidCommand, Console().run, command).word)
            self.assertIsNone(raised(InvalidCommand, with_table().run, command).word)

    def test_numbers_of_words(self):
        counts = {"table": 1, "cost": 1, "show": 0, "least": 2, "strength": 1, "fatal": 1, "touched": 1, "order": 2}
        for console in [Console(), with_table()]:
            for word in ["Show", "tables", "none", "-", "0", "1,0", "run", "show;"]:
                self.assertEqual(raised(InvalidCommand, console.run, word).word, word)
                self.assertEqual(raised(InvalidCommand, console.run, word + " -").word, word)
            for word, many in counts.items():
                for other in range(many):
                    self.assertEqual(raised(InvalidCommand, console.run, " ".join([word] + ["x"] * other)).word, word)
                if word in ("show", "strength", "touched", "order"):
                    for other in [many + 1, many + 2]:
                        self.assertEqual(raised(InvalidCommand, console.run, " ".join([word] + ["x"] * other)).word, word)

    def test_without_a_table(self):
        console = Console()
        for command in COMMANDS + ["cost prices", "cost x", "least x x", "strength x", "fatal x x x", "touched x", "order x x"]:
            raised(NoTable, console.run, command)
        raised(InvalidText, console.run, "table x")
        raised(InvalidNumber, console.run, "table table 4 1; piece 1")
        raised(NoTable, console.run, "show")

    def test_lines(self):
        console = with_table("cost prices; 0 1 7; 0 1 7; 0 9 7")
        places = {
            "table x": 0, "table table 3 2": 1, "table table 3 2;": 0, "table table 3 2; piece 1,x": 1, "table table 3 2;piece 1,0": 0,
            "table table 3 2 ; piece 1,0": 0, "table table 3 2; piece 1,0;": 1, "table table 3 2; piece 1,0; prices": 2,
            "table table 3 2; table 3 2": 1, "cost x": 0, "cost prices": 1, "cost prices; 1 1": 1, "cost prices; 1 1 1; home": 2,
            "cost prices; 1 1 1; home 0": 3, "cost prices; 1 1 1; x": 2, "table ; table 3 2": 0, "cost table 3 2; piece 1,0": 0,
        }  # fmt: skip
        for command, place in places.items():
            self.assertEqual(raised(InvalidText, console.run, command).place, place, command)
        self.assertEqual(raised(InvalidTable, console.run, "table table 3 2; piece 1,0; piece 1,3").place, (1, 0))
        self.assertEqual(raised(InvalidNumber, console.run, "table table 3 7; piece 1,0").value, 7)
        self.assertEqual(raised(InvalidCost, console.run, "cost prices; 0 1 1001").value, ((1001,),))
        wrong = raised(InvalidCost, console.run, "cost prices; 0 1 1; 0 1 1").value
        self.assertEqual(wrong, Prices([[1], [1]], [1, 1], [0, 0]))
        # Behind errors the table and the cost are those from before.
        self.assertEqual((console.run("show"), console.run("least - 0,1")), (TABLE_COMMAND[6:], "1 1.0"))

    def test_words_that_are_not_written_so(self):
        console = with_table()
        wrong = {
            "least x 1,0": "x", "least 0 1,0": "0", "least 0.0, 1,0": "0.0,", "least 0.0;1.0 1,0": "0.0;1.0", "least 00.0 1,0": "00.0",
            "least 0.0.0 1,0": "0.0.0", "least -,0.0 1,0": "-,0.0", "least -1.0 1,0": "-1.0", "least 0.0 -": "-",
            "least - 1,0 1,": "1,", "least - x y": "x", "least x y": "x", "least - 1,0 01,0": "01,0", "least - 1,0 +1,0": "+1,0",
            "least -- 1,0": "--", "fatal -": "-", "fatal 1,0 x": "x", "fatal 1.0": "1.0", "strength x": "x", "strength 0,": "0,",
            "strength 0.0": "0.0", "strength -,0": "-,0", "touched x": "x", "touched 0;1": "0;1", "order x -": "x", "order - 0": "-",
            "order 0 x": "x", "order -1 0": "-1", "order 0,1 0": "0,1", "order 01 0": "01", "order x y": "x", "touched 0,-1": "0,-1",
            f"order {'1' * 31} 0": "1" * 31, f"touched {'1' * 31}": "1" * 31, "touched \u0661": "\u0661",
        }  # fmt: skip
        for command, word in wrong.items():
            self.assertEqual(raised(InvalidCommand, console.run, command).word, word, command)

    def test_as_the_functions(self):
        console = with_table()
        self.assertEqual(raised(InvalidSum, console.run, "least 0.0,0.0 1,0 3,0").value, (3, 0))
        self.assertEqual(raised(InvalidSpots, console.run, "least 0.0,0.0 1").value, ((0, 0), (0, 0)))
        self.assertEqual(raised(InvalidSpots, console.run, "least 1.0,0.0 1,0").value, ((1, 0), (0, 0)))
        self.assertEqual(raised(InvalidSpots, console.run, "least 0.1 1,0").value, ((0, 1),))
        wishes = raised(InvalidWishes, console.run, "least - 1,0 1").value
        self.assertEqual((type(wishes), wishes), (tuple, (Sum(3, (1, 0)), Sum(3, (1,)))))
        self.assertEqual(len(raised(InvalidWishes, console.run, "least -" + " 1,0" * 11).value), 11)
        self.assertEqual(console.run("least -" + " 1,0" * 10), "1 0.0")
        self.assertEqual(len(raised(InvalidWishes, console.run, "fatal" + " 1,0" * 11).value), 11)
        self.assertEqual(raised(InvalidSum, console.run, "fatal 1,0 9").value, (9,))
        for word in ["1,0", "0,0", "3"]:
            self.assertEqual(raised(InvalidPieces, console.run, f"strength {word}").value, tuple(map(int, word.split(","))))
        for word in ["1,0", "0,0", "2"]:
            told = tuple(map(int, word.split(",")))
            self.assertEqual(raised(InvalidChange, console.run, f"touched {word}").value, told)
            self.assertEqual(raised(InvalidChange, console.run, f"order 0 {word}").value, told)
        self.assertEqual(raised(InvalidChange, console.run, "touched -").value, ())
        self.assertEqual(raised(InvalidChange, console.run, "order 0 -").value, ())
        self.assertEqual(console.run(f"order {'9' * 30} 0"), "none")
        console.run("table table 7 3; piece 1,0,0; piece 0,1,0; piece 0,0,1")
        self.assertEqual(raised(LimitExceeded, console.run, "order 0 0,1").limit, 4096)

    def test_greatest_tables_within_seconds(self):
        random = Random(702)
        for prime, size in [(2, 5), (3, 5), (5, 4), (7, 3)]:
            table = random_table(random, prime, size, [2, 2, 2, 2, 1, 1])
            console = Console()
            begun = time.monotonic()
            console.run("table " + lines_of(write_table(table)))
            units = [",".join("1" if place == index else "0" for place in range(size)) for index in range(size)]
            for command in [f"least - {' '.join(units)}", f"fatal {' '.join(units)}", "strength 0", "order 1 0", "order 0 0"]:
                self.assertIsInstance(console.run(command), str)
            self.assertLess(time.monotonic() - begun, 10)


if __name__ == "__main__":
    unittest.main()
