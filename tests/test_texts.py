import re
import time
import unittest
from random import Random

from leastreads.costs import Prices
from leastreads.errors import (
    InvalidCost, InvalidNumber, InvalidSpots, InvalidSum, InvalidTable, InvalidText, InvalidWishes, LeastError, Lost,
)  # fmt: skip
from leastreads.nets import Net
from leastreads.papers import is_least
from leastreads.reads import least
from leastreads.sums import Sum
from leastreads.tables import Table
from leastreads.texts import certify, check, read_cost, read_table, write_cost, write_table
from net_support import random_net, random_prices
from support import ODD, EqualToAll, raised, random_table, units_of
from test_reads import cases as read_cases

TABLE = Table(3, 2, [[(1, 0)], [(0, 1), (2, 2)], [(1, 1)]])
PRICES = Prices([[5], [2, 0], [1000]], [9, 3, 9], [0, 1, 0])
NET = Net(PRICES, [0, 4, 1], [(1, 4, 2), (0, 1, 5), (0, 4, 1000)], 0)
TABLE_TEXT = "table 3 2\npiece 1,0\npiece 0,1 2,2\npiece 1,1"
PRICES_TEXT = "prices\n0 9 5\n1 3 2 0\n0 9 1000"
NET_TEXT = PRICES_TEXT + "\nhome 0\nracks 0 4 1\nlink 0 1 5\nlink 0 4 1000\nlink 1 4 2"
ONE = Sum(3, (1, 0))

NUMBER = "(?:0|[1-9][0-9]{0,29})"
ROW = f"{NUMBER}(?:,{NUMBER})*"
SPOT = f"{NUMBER}[.]{NUMBER}"


def matches(form, line):
    return re.fullmatch(form, line, re.ASCII) is not None


def spots_in(line):
    return [tuple(map(int, spot.split("."))) for spot in re.findall(r"[0-9]+[.][0-9]+", line)]


class Reading:
    """The lines of a text, looked at by patterns; wrong tells the first one that is not written so."""

    def __init__(self, text):
        self.lines, self.place, self.wrong = text.split("\n"), 0, None

    def begins(self, form):
        return self.wrong is None and self.place < len(self.lines) and matches(form, self.lines[self.place])

    def take(self, form, is_right=lambda line: True):
        """Take a line that has to match; return it, or None."""
        if self.wrong is not None:
            return None
        if not self.begins(form) or not is_right(self.lines[self.place]):
            self.wrong = self.place
            return None
        self.place += 1
        return self.lines[self.place - 1]

    def table(self):
        self.take(f"table {NUMBER} {NUMBER}")
        counts = []
        while self.wrong is None and (not counts or len(counts) < 6 and self.begins("piece.*")):
            line = self.take(f"piece {ROW}(?: {ROW}){{0,2}}")
            counts.append(0 if line is None else len(line.split(" ")) - 1)
        return counts

    def cost(self, counts=None):
        self.take("prices")
        if counts is not None:
            for count in counts:
                self.take(f"{NUMBER}(?: {NUMBER}){{{count + 1}}}")
            many = len(counts)
        else:
            many = 0
            while self.wrong is None and (many == 0 or many < 6 and self.place < len(self.lines) and not self.begins("home.*")):
                self.take(f"{NUMBER}(?: {NUMBER}){{2,4}}")
                many += 1
        if self.begins("home.*"):
            self.take(f"home {NUMBER}")
            self.take(f"racks(?: {NUMBER}){{{many}}}")
            links = []
            while self.wrong is None and len(links) < 10 and self.begins("link.*"):
                line = self.take(f"link(?: {NUMBER}){{3}}", lambda line: not links or links[-1] < link_of(line))
                links.append(link_of(line or "link 0 0 0"))

    def paper(self, counts):
        known = [(piece, part) for piece, count in enumerate(counts) for part in range(count)]

        def are_right(line):
            spots = spots_in(line)
            return spots == sorted(set(spots)) and set(spots) <= set(known)

        self.take(f"gone(?: {SPOT})*", are_right)
        many = 0
        while self.wrong is None and (many == 0 or many < 10 and self.begins("wish.*")):
            self.take(f"wish {ROW}")
            many += 1
        self.take(f"read {NUMBER}(?: {SPOT})*", are_right)
        for _ in range(many):
            self.take(f"by(?: {NUMBER}[*]{SPOT})*", are_right)
        while self.begins("blind.*"):
            self.take(f"blind {ROW}")

    def end(self):
        if self.wrong is None and self.place < len(self.lines):
            self.wrong = self.place
        return self.wrong


def link_of(line):
    return tuple(map(int, line.split(" ")[1:]))


def wrong_line_of(kind, text):
    """Return the place of the first wrong line of a text, by its patterns, or None."""
    reading = Reading(text)
    if kind is read_table:
        reading.table()
    elif kind is read_cost:
        reading.cost()
    else:
        counts = reading.table()
        reading.cost(counts)
        reading.paper(counts)
    return reading.end()


def numbers(word, sign=","):
    return tuple(map(int, word.split(sign)))


def made_table(lines):
    _, prime, size = lines[0].split(" ")
    pieces = [tuple(numbers(part) for part in line.split(" ")[1:]) for line in lines if line.startswith("piece")]
    return Table(int(prime), int(size), tuple(pieces))


def made_cost(lines):
    rows = [numbers(line, " ") for line in lines[lines.index("prices") + 1 :] if re.match("[0-9]", line)]
    prices = Prices(tuple(row[2:] for row in rows), tuple(row[1] for row in rows), tuple(row[0] for row in rows))
    told = {line.split(" ")[0]: tuple(map(int, line.split(" ")[1:])) for line in lines if line.startswith(("home", "racks"))}
    if "home" not in told:
        return prices
    return Net(prices, told["racks"], tuple(link_of(line) for line in lines if line.startswith("link")), told["home"][0])


def checked(text):
    """Return what check has to tell of a text without a wrong line; it can raise what check has to raise."""
    lines = text.split("\n")
    table, cost = made_table(lines), made_cost(lines)
    behind = {word: [line for line in lines if line.split(" ")[0] == word] for word in ["gone", "wish", "read", "by", "blind"]}
    wishes = tuple(Sum(table.prime, numbers(line[5:])) for line in behind["wish"])
    combinations = [[(tuple(map(int, word.split("*")[1].split("."))), int(word.split("*")[0])) for word in line.split(" ")[1:]]
                    for line in behind["by"]]  # fmt: skip
    paper = (tuple(spots_in(behind["read"][0])), int(behind["read"][0].split(" ")[1]), tuple(map(tuple, combinations)),
             tuple(numbers(line[6:]) for line in behind["blind"]))  # fmt: skip
    return is_least(table, cost, tuple(spots_in(behind["gone"][0])), wishes, paper)


def altered_lines(random, text):
    """Return texts with one line altered, missing, doubled, moved or added."""
    lines = text.split("\n")
    texts = [text + "\n", text + "\nx", "\n" + text, text.replace("\n", "\n\n", 1)]
    for place, line in enumerate(lines):
        words = line.split(" ")
        at = random.randrange(len(words))
        others = [line + " ", " " + line, line + " 0", line.replace(" ", "  ", 1), " ".join(words[:-1]), line.upper(), "",
                  " ".join(words[:at] + words[at + 1 :]), " ".join(words[: at + 1] + words[at:]), line + "0", line[:-1],
                  line.replace("1", "01", 1), line.replace("1", "+1", 1), line.replace("0", "-0", 1), line.replace(".", ",", 1),
                  line.replace(",", ".", 1), line.replace("*", "", 1), line.replace("1", "9", 1), line.replace("0", "2", 1),
                  line.replace("2", "1" * 30, 1), line.replace("2", "1" * 31, 1), line.replace("1", "\u0661", 1),
                  line.replace(" ", "\t", 1), words[0], random.choice(lines)]  # fmt: skip
        texts += ["\n".join(lines[:place] + [other] + lines[place + 1 :]) for other in others if other != line]
        texts += ["\n".join(lines[:place] + lines[place + 1 :]), "\n".join(lines[:place]), "\n".join(lines[: place + 1] + lines[place:])]
        texts += ["\n".join(lines[:place] + [random.choice(lines)] + lines[place:])]
    return [other for other in texts if other != text]


def outcome(call, *told):
    """Return (None, what a call returns), or (the class of its error, what this keeps)."""
    try:
        return None, call(*told)
    except LeastError as error:
        return type(error), vars(error)


class TableTest(unittest.TestCase):
    def test_written_and_read_back(self):
        self.assertEqual(write_table(TABLE), TABLE_TEXT)
        self.assertEqual(read_table(TABLE_TEXT), TABLE)
        self.assertEqual(write_table(table=Table(7, 1, [[(6,)]])), "table 7 1\npiece 6")
        random = Random(601)
        for prime, size in [(2, 1), (2, 6), (3, 6), (5, 5), (7, 4), (7, 1)]:
            for counts in [[1], [3], [1] * 6, [3, 3, 3, 1], [2, 2, 2, 2, 1, 1]]:
                table = random_table(random, prime, size, counts)
                self.assertEqual(read_table(text=write_table(table)), table)
                self.assertEqual(write_table(read_table(write_table(table))), write_table(table))

    def test_lines_that_are_not_written_so(self):
        cases = {
            "": 0, "table": 0, "table 3": 0, "table 3 2 1": 0, "table 3 2 ": 0, " table 3 2": 0, "Table 3 2": 0, "table 3  2": 0,
            "table 3 02": 0, "table +3 2": 0, "table 3 -2": 0, "table 3 2": 1, "table 3 2\n": 1, "table 3 2\npiece": 1,
            "table 3 2\npiece ": 1, "table 3 2\npiece 1,0 ": 1, "table 3 2\npiece 1,": 1, "table 3 2\npiece ,1": 1,
            "table 3 2\npiece 1,,0": 1, "table 3 2\npiece 1;0": 1, "table 3 2\npiece 1.0": 1, "table 3 2\npiece 1,0 1,0 1,0 1,0": 1,
            "table 3 2\npiece 1,0\n": 2, "table 3 2\npiece 1,0\n\npiece 1,0": 2, "table 3 2\npiece 1,0\npiece 1,-1": 2,
            "table 3 2\npiece 1,0\nprices": 2, "table 3 2" + "\npiece 1,0" * 7: 7, "table 3 2" + "\npiece 1,0" * 6 + "\n": 7,
            "table 3 2\npiece " + "1" * 31: 1, "piece 1,0": 0, "table 3 2\r\npiece 1,0": 0, "table 3 2\npiece 1, 0": 1,
        }  # fmt: skip
        for text, place in cases.items():
            self.assertEqual(raised(InvalidText, read_table, text).place, place, text)
            self.assertEqual(wrong_line_of(read_table, text), place, text)

    def test_what_is_written_so_raises_as_table(self):
        self.assertEqual(raised(InvalidNumber, read_table, "table 4 2\npiece 9").value, 4)
        self.assertEqual(raised(InvalidNumber, read_table, "table " + "1" * 30 + " 2\npiece 1").value, int("1" * 30))
        self.assertEqual(raised(InvalidNumber, read_table, "table 7 5\npiece 9").value, 5)
        self.assertEqual(raised(InvalidTable, read_table, "table 2 1\npiece 1\npiece 0 1,1").place, (1, 1))
        self.assertEqual(raised(InvalidTable, read_table, "table 2 1\npiece 1\npiece 0 2").place, (1, 1))
        self.assertIsNone(raised(InvalidTable, read_table, "table 2 1" + "\npiece 1 1 1" * 4).place)
        self.assertEqual(read_table("table 2 1" + "\npiece 1 1 1" * 3 + "\npiece 0"), Table(2, 1, [[(1,)] * 3] * 3 + [[(0,)]]))

    def test_altered_lines(self):
        random, told = Random(602), []
        for text in altered_lines(random, TABLE_TEXT):
            place = wrong_line_of(read_table, text)
            told.append(place is None)
            right = outcome(made_table, text.split("\n")) if place is None else (InvalidText, {"place": place})
            self.assertEqual(outcome(read_table, text), right, text)
        self.assertGreater(min(told.count(True), told.count(False)), 10)

    def test_no_strings(self):
        for text in [item for item in ODD if not isinstance(item, str)] + [0, [], b"table 2 1", EqualToAll(), ["table 2 1"]]:
            for call in [read_table, read_cost, check]:
                self.assertIsNone(raised(InvalidText, call, text).place)


class CostTest(unittest.TestCase):
    def test_written_and_read_back(self):
        self.assertEqual((write_cost(PRICES), write_cost(NET)), (PRICES_TEXT, NET_TEXT))
        self.assertEqual((read_cost(PRICES_TEXT), read_cost(NET_TEXT)), (PRICES, NET))
        random = Random(611)
        for number in range(60):
            table = random_table(random, 2, 1, random.choice([[1], [3, 3, 3, 1], [1] * 6, [2, 1]]))
            for cost in [random_prices(random, table, 500), random_net(random, table, 500)]:
                self.assertEqual(read_cost(text=write_cost(cost=cost)), cost)
        bare = Net(Prices([[1]], [1], [1]), [4], [], 2)
        self.assertEqual(write_cost(bare), "prices\n1 1 1\nhome 2\nracks 4")
        self.assertEqual(read_cost(write_cost(bare)), bare)
        ten = Net(Prices([[1]], [1], [1]), [4], [(a, b, 1000) for a in range(5) for b in range(a + 1, 5)], 0)
        self.assertEqual(read_cost(write_cost(ten)), ten)

    def test_lines_that_are_not_written_so(self):
        net = "prices\n1 1 1\nhome 0\nracks 0"
        ten = "".join(f"\nlink 0 {place} 1" for place in range(1, 11))
        cases = {
            "": 0, "price": 0, "prices ": 0, "prices 1": 0, "prices": 1, "prices\n": 1, "prices\nhome 0": 1, "prices\n1 1": 1,
            "prices\n1 1 1 1 1 1": 1, "prices\n1 1 x": 1, "prices\n1 1 01": 1, "prices\n1 1 -1": 1, "prices\n1 1 1\n": 2,
            "prices\n1 1 1 ": 1, "prices\n1,1 1": 1, "prices" + "\n1 1 1" * 7: 7, "prices\n1 1 1\nracks 0": 2, "prices\n1 1 1\nhome": 2,
            "prices\n1 1 1\nhome x": 2, "prices\n1 1 1\nhome 0 0": 2, "prices\n1 1 1\nhome 0": 3, "prices\n1 1 1\nhome 0\nracks": 3,
            "prices\n1 1 1\nhome 0\nracks 0 0": 3, "prices\n1 1 1\nhome 0\nlink 0 1 1": 3, net + "\n": 4, net + "\nlink 0 1": 4,
            net + "\nlink 0 1 1 1": 4, net + "\nlink 0 1 x": 4, net + "\nhome 0": 4, net + "\nlink 0 2 1\nlink 0 1 1": 5,
            net + "\nlink 0 1 1\nlink 0 1 1": 5, net + "\nlink 0 1 1\nx": 5, net + ten + "\nlink 1 2 3": 14, net + ten + "\n": 14,
            "prices\n1 1 1\nhome 0\nhome 0": 3, "prices\n1 1 1\nprices": 2, "prices\n1 1 1\ngone": 2,
        }  # fmt: skip
        for text, place in cases.items():
            self.assertEqual(raised(InvalidText, read_cost, text).place, place, text)
            self.assertEqual(wrong_line_of(read_cost, text), place, text)

    def test_what_is_written_so_raises_as_prices_and_net(self):
        self.assertEqual(raised(InvalidCost, read_cost, "prices\n1001 1 1001").value, ((1001,),))
        self.assertEqual(raised(InvalidCost, read_cost, "prices\n1001 1001 1").value, (1001,))
        self.assertEqual(raised(InvalidCost, read_cost, "prices\n0 0 0\n1001 0 1").value, (0, 1001))
        net = "prices\n1 1 1\nhome 5\nracks 5\nlink 1 0 1"
        self.assertEqual(raised(InvalidCost, read_cost, net).value, (5,))
        self.assertEqual(raised(InvalidCost, read_cost, net.replace("racks 5", "racks 4")).value, ((1, 0, 1),))
        twice = "prices\n1 1 1\nhome 5\nracks 4\nlink 0 1 1\nlink 0 1 2"
        self.assertEqual(raised(InvalidCost, read_cost, twice).value, ((0, 1, 1), (0, 1, 2)))
        self.assertEqual(raised(InvalidCost, read_cost, "prices\n1 1 1\nhome 5\nracks 4\nlink 0 1 1").value, 5)
        self.assertEqual(raised(InvalidCost, read_cost, "prices\n1 1 1001\nhome 5\nracks 9").value, ((1001,),))

    def test_altered_lines(self):
        random, told = Random(612), []
        for text in altered_lines(random, PRICES_TEXT) + altered_lines(random, NET_TEXT):
            place = wrong_line_of(read_cost, text)
            told.append(place is None)
            right = outcome(made_cost, text.split("\n")) if place is None else (InvalidText, {"place": place})
            self.assertEqual(outcome(read_cost, text), right, text)
        self.assertGreater(min(told.count(True), told.count(False)), 20)


CERTIFICATE = """\
table 3 2
piece 1,0
piece 0,1 2,2
piece 1,1
prices
0 9 5
1 3 2 0
0 9 1000
gone 0.0
wish 1,0
read 3 1.0 1.1
by 2*1.0 2*1.1
blind 1,0
blind 1,1
blind 1,2"""


class CertificateTest(unittest.TestCase):
    def test_an_ordinary_one(self):
        told = certify(TABLE, PRICES, [(0, 0)], [ONE])
        self.assertEqual(told.split("\nblind")[0], CERTIFICATE.split("\nblind")[0])
        self.assertEqual(told, certify(table=TABLE, cost=PRICES, gone=((0, 0),), wishes=(ONE,)))
        self.assertIs(check(told), True)
        self.assertIs(check(text=CERTIFICATE), True)

    def certificates(self, seed, many):
        for make_cost, wishes in [(random_prices, 3), (random_net, 1)]:
            for table, cost, gone, items in read_cases(seed, many, make_cost, wishes):
                try:
                    yield table, cost, gone, items, certify(table, cost, gone, items)
                except Lost as error:
                    self.assertEqual(raised(Lost, least, table, cost, gone, items).blind, error.blind)

    def test_what_certify_tells_is_accepted(self):
        for table, cost, gone, wishes, text in self.certificates(621, 96):
            self.assertIs(check(text), True)
            self.assertIsNone(wrong_line_of(check, text))
            spots, price, combinations, blinds = least(table, cost, gone, wishes).paper()
            lines = text.split("\n")
            self.assertEqual("\n".join(lines[: len(table) + 1]), write_table(table))
            self.assertIn(write_cost(cost) + "\n" + " ".join(["gone", *[f"{a}.{b}" for a, b in gone]]), text)
            self.assertEqual(len([line for line in lines if line.startswith("blind ")]), len(blinds))
            self.assertIn(" ".join([f"\nread {price}", *[f"{a}.{b}" for a, b in spots]]) + "\n", text)
            self.assertEqual(len([line for line in lines if line.split(" ")[0] == "by"]), len(combinations))
            self.assertTrue(checked(text))

    def test_altered_lines(self):
        random, told = Random(622), []
        for *_, text in self.certificates(623, 24):
            for other in altered_lines(random, text):
                place = wrong_line_of(check, other)
                right = outcome(checked, other) if place is None else (InvalidText, {"place": place})
                self.assertEqual(outcome(check, other), right, other)
                told.append((right[0] or right[1]))
        for kind in [True, False, InvalidText, InvalidNumber, InvalidTable, InvalidSum, InvalidCost]:
            self.assertGreater(told.count(kind), 3, kind)

    def test_without_blinds_spots_and_combinations(self):
        table = Table(2, 1, [[(1,)]])
        free = Prices([[0]], [0], [0])
        self.assertEqual(certify(table, free, [], [Sum(2, (0,))]),
                         "table 2 1\npiece 1\nprices\n0 0 0\ngone\nwish 0\nread 0\nby")  # fmt: skip
        text = "table 2 1\npiece 1\nprices\n0 0 0\ngone\nwish 1\nread 0 0.0\nby 1*0.0"
        self.assertEqual(certify(table, free, [], [Sum(2, (1,))]), text)
        self.assertIs(check(text), True)
        self.assertIs(check(text + "\nblind 1"), True)
        self.assertIs(check(text.replace("0 0 0", "0 0 1")), True)
        self.assertIs(check(text.replace("0 0 0", "1 0 1")), False)
        self.assertIs(check(text.replace("0 0 0", "1 0 1").replace("read 0", "read 1")), False)
        self.assertIs(check(text.replace("0 0 0", "1 0 1").replace("read 0", "read 1") + "\nblind 1"), True)

    def test_one_to_ten_wishes(self):
        for many in range(1, 11):
            text = certify(TABLE, PRICES, [], [ONE] * many)
            self.assertIs(check(text), True)
            self.assertEqual(text.count("\nby "), many)
            self.assertEqual(text.count("\nwish "), many)
            more = text.replace("\nread", "\nwish 1,0\nread")
            place = len(text.split("\nread")[0].split("\n"))
            # An eleventh wish, or one that has no line `by`.
            self.assertEqual(raised(InvalidText, check, more).place, place if many == 10 else place + 2 + many)
        none = CERTIFICATE.replace("wish 1,0\n", "")
        self.assertEqual(raised(InvalidText, check, none).place, 9)
        self.assertEqual(raised(InvalidText, check, CERTIFICATE.replace("by 2*1.0 2*1.1\n", "")).place, 11)
        twice = CERTIFICATE.replace("by 2*1.0 2*1.1\n", "by 2*1.0 2*1.1\n" * 2)
        self.assertEqual(raised(InvalidText, check, twice).place, 12)

    def test_ten_and_eleven_links(self):
        links = [(a, b, 1) for a in range(5) for b in range(a + 1, 5)]
        net = Net(PRICES, [0, 1, 2], links, 0)
        text = certify(TABLE, net, [], [ONE])
        self.assertIs(check(text), True)
        lines = text.split("\n")
        last = lines.index("link 3 4 1")
        more = "\n".join(lines[: last + 1] + ["link 4 5 1"] + lines[last + 1 :])
        self.assertEqual(raised(InvalidText, check, more).place, last + 1)
        other = "\n".join(lines[:last] + ["link 4 3 1"] + lines[last + 1 :])
        self.assertEqual(raised(InvalidCost, check, other).value, tuple(links[:-1] + [(4, 3, 1)]))

    def test_lines_that_cannot_stand_there(self):
        cases = [
            ("1 3 2 0", "1 3 2", 6), ("0 9 5", "0 9 5 5", 5), ("0 9 1000\n", "", 7), ("0 9 1000\n", "0 9 1000\n0 0 1\n", 8),
            ("gone 0.0", "gone 0.1", 8), ("gone 0.0", "gone 3.0", 8), ("gone 0.0", "gone 1.0 0.0", 8), ("gone 0.0", "gone 0.0 0.0", 8),
            ("gone 0.0", "gone 0", 8), ("gone 0.0", "gone -", 8), ("gone 0.0", "gone ", 8), ("read 3 1.0", "read 3 1.2", 10),
            ("read 3 1.0 1.1", "read 3 1.1 1.0", 10), ("read 3 1.0 1.1", "read", 10), ("read 3", "read -", 10), ("read 3", "read x", 10),
            ("by 2*1.0", "by 2*1.2", 11), ("by 2*1.0 2*1.1", "by 2*1.1 2*1.0", 11), ("by 2*1.0 2*1.1", "by 2*1.0 2*1.0", 11),
            ("by 2*1.0", "by -2*1.0", 11), ("by 2*1.0", "by 1.0*2", 11), ("by 2*1.0", "by 1.0", 11), ("blind 1,0", "blind", 12),
            ("blind 1,1", "blind 1,1 1,1", 13), ("blind 1,2", "blinds 1,2", 14), ("wish 1,0", "wish 1,0 1,0", 9), ("wish 1,0", "wish", 9),
            ("prices", "price", 4), ("piece 1,1\n", "piece 1,1\n\n", 4), ("blind 1,2", "blind 1,2\n", 15),
        ]  # fmt: skip
        for old, new, place in cases:
            text = CERTIFICATE.replace(old, new, 1)
            self.assertEqual(raised(InvalidText, check, text).place, place, (old, new))
            self.assertEqual(wrong_line_of(check, text), place, (old, new))
        lines = CERTIFICATE.split("\n")
        for many in range(12):
            self.assertEqual(raised(InvalidText, check, "\n".join(lines[:many])).place, many)

    def test_what_does_not_count_in_lines(self):
        cases = [
            ("wish 1,0", "wish 1", InvalidWishes, None), ("wish 1,0", "wish 3,0", InvalidSum, (3, 0)),
            ("wish 1,0", "wish 1,0,0,0,0,0,0", InvalidSum, (1, 0, 0, 0, 0, 0, 0)), ("piece 1,1", "piece 1,1,1", InvalidTable, (2, 0)),
            ("table 3 2", "table 4 2", InvalidNumber, 4), ("table 3 2", "table 3 9", InvalidNumber, 9),
            ("0 9 1000", "0 9 1001", InvalidCost, ((5,), (2, 0), (1001,))),
        ]  # fmt: skip
        for old, new, error, kept in cases:
            told = raised(error, check, CERTIFICATE.replace(old, new, 1))
            if kept is not None:
                self.assertEqual(list(vars(told).values()), [kept])
            else:
                self.assertEqual([item.factors for item in told.value], [(1,)])
                self.assertIs(type(told.value), tuple)
        for old, new in [("blind 1,0", "blind 1"), ("blind 1,0", "blind 1,9"), ("blind 1,0", "blind 0,1"), ("read 3", "read 4"),
                         ("by 2*1.0", "by 9*1.0"), ("by 2*1.0", "by 0*1.0"), ("by 2*1.0 2*1.1", "by"), ("blind 1,2", "blind 1,1"),
                         ("read 3", "read " + "9" * 30)]:  # fmt: skip
            self.assertIs(check(CERTIFICATE.replace(old, new, 1)), False)

    def test_errors_in_order(self):
        text = CERTIFICATE.replace("wish 1,0", "wish 9").replace("0 9 1000", "0 9 1001").replace("piece 1,1", "piece 9,1")
        self.assertEqual(raised(InvalidText, check, text.replace("blind 1,2", "blind x")).place, 14)
        self.assertEqual(raised(InvalidNumber, check, text.replace("table 3", "table 4")).value, 4)
        self.assertEqual(raised(InvalidTable, check, text).place, (2, 0))
        self.assertEqual(raised(InvalidCost, check, text.replace("9,1", "1,1")).value, ((5,), (2, 0), (1001,)))
        self.assertEqual(raised(InvalidSum, check, text.replace("9,1", "1,1").replace("1001", "1")).value, (9,))
        net = certify(TABLE, NET, [], [ONE])
        two = net.replace("\nwish 1,0", "\nwish 1,0\nwish 0,1").replace("\nby", "\nby\nby", 1)
        self.assertEqual([item.factors for item in raised(InvalidWishes, check, two).value], [(1, 0), (0, 1)])
        for cost in ODD + [0, Prices([[1]], [1], [1])]:
            self.assertIs(raised(InvalidCost, certify, TABLE, cost, None, None).value, cost)
        self.assertIsNone(raised(InvalidSpots, certify, TABLE, PRICES, None, None).value)
        self.assertIsNone(raised(InvalidWishes, certify, TABLE, PRICES, [], None).value)
        self.assertEqual(raised(Lost, certify, TABLE, PRICES, list(TABLE), [ONE]).blind, (1, 0))

    def test_greatest_tables_within_seconds(self):
        random = Random(624)
        for prime, size in [(2, 6), (3, 6), (5, 5), (7, 4)]:
            table = random_table(random, prime, size, [2, 2, 2, 2, 1, 1])
            while not table.is_whole:
                table = random_table(random, prime, size, [2, 2, 2, 2, 1, 1])
            begun = time.monotonic()
            for cost, wishes in [(random_prices(random, table, 500), (units_of(table) * 3)[:10]), (random_net(random, table, 9), [])]:
                wishes = wishes or [Sum(prime, table.pieces[0][0])]
                try:
                    self.assertIs(check(certify(table, cost, [], wishes)), True)
                except Lost:
                    self.assertIsInstance(cost, Net)
            self.assertLess(time.monotonic() - begun, 10)


if __name__ == "__main__":
    unittest.main()
