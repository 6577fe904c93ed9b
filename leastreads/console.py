"""A console: commands about one table, as texts."""

from leastreads.costs import Prices
from leastreads.errors import InvalidCommand, InvalidCost, Lost, NoTable
from leastreads.ground import fatal
from leastreads.reads import least
from leastreads.sums import Sum
from leastreads.texts import read_cost, read_table, write_table
from leastreads.words import are_numbers, is_number, is_spot_word, numbers_in, numbers_word, spot_in, spot_word
from leastreads.wrong import strength
from leastreads.writes import safe_order, touched

# How many words stand behind the first one: at least, and at most (None for any number).
COUNTS = {
    "table": (1, None),
    "cost": (1, None),
    "show": (0, 0),
    "least": (2, None),
    "strength": (1, 1),
    "fatal": (1, None),
    "touched": (1, 1),
    "order": (2, 2),
}


def is_command(words):
    """Return whether the first of some words is that of a command with so many words."""
    if words[0] not in COUNTS:
        return False
    fewest, most = COUNTS[words[0]]
    return fewest <= len(words) - 1 and (most is None or len(words) - 1 <= most)


def plain_prices(table):
    """Return the Prices 1 for each part, 2 for each whole piece and 0 for opening."""
    many = len(table)
    return Prices([(1,) * len(parts) for parts in table.pieces], (2,) * many, (0,) * many)


def expect_written(word, is_right):
    """Raise InvalidCommand with a word that is not written so."""
    if not is_right:
        raise InvalidCommand(word)


def read_list(word):
    """Return the tuple of the integers of a word, which is `-` for none."""
    expect_written(word, word == "-" or are_numbers(word))
    return () if word == "-" else numbers_in(word)


def read_spots(word):
    """Return the tuple of the spots of a word, which is `-` for none."""
    words = [] if word == "-" else word.split(",")
    expect_written(word, all([is_spot_word(item) for item in words]))
    return tuple([spot_in(item) for item in words])


def read_sums(table, words):
    """Return the tuple of the Sums of a table with the factors of some words."""
    for word in words:
        expect_written(word, are_numbers(word))
    return tuple([Sum(table.prime, numbers_in(word)) for word in words])


def list_word(numbers):
    """Return integers as a word, `-` for none."""
    return "-" if len(numbers) == 0 else numbers_word(numbers)


def least_text(table, cost, words):
    """Return the answer to least, by the words behind it."""
    gone = read_spots(words[0])
    wishes = read_sums(table, words[1:])
    try:
        reads = least(table, cost, gone, wishes)
    except Lost as error:
        return " ".join(["lost", numbers_word(error.blind)])
    return " ".join([str(reads.cost), *[spot_word(spot) for spot in reads.spots]])


def fatal_text(table, words):
    """Return the answer to fatal, by the words behind it."""
    told = fatal(table, read_sums(table, words))
    return "-" if len(told) == 0 else " ".join([list_word(pieces) for pieces, _ in told])


def order_text(table, words):
    """Return the answer to order, by the words behind it."""
    expect_written(words[0], is_number(words[0]))
    changed = read_list(words[1])
    word, told = safe_order(table, changed, int(words[0]))
    return list_word(told) if word == "order" else "none"


def answer(table, cost, words):
    """Return the answer to a command that asks about a table."""
    word = words[0]
    if word == "show":
        return write_table(table).replace("\n", "; ")
    if word == "least":
        return least_text(table, cost, words[1:])
    if word == "strength":
        return str(strength(table, read_list(words[1]))[0])
    if word == "fatal":
        return fatal_text(table, words[1:])
    if word == "touched":
        return list_word(touched(table, read_list(words[1])))
    return order_text(table, words[1:])


class Console:
    """A table and a cost, and commands about them."""

    def __init__(self):
        self._table = None
        self._cost = None

    def run(self, command):
        """Do a command; return its answer."""
        if not isinstance(command, str):
            raise InvalidCommand(None)
        words = command.split(" ")
        if "" in words:
            raise InvalidCommand(None)
        if not is_command(words):
            raise InvalidCommand(words[0])
        if words[0] == "table":
            self._take_table(words[1:])
            return "ok"
        if self._table is None:
            raise NoTable()
        if words[0] == "cost":
            self._take_cost(words[1:])
            return "ok"
        return answer(self._table, self._cost, words)

    def _take_table(self, words):
        """Take the table of the lines of some words."""
        self._table = read_table(text_of(words))
        self._cost = plain_prices(self._table)

    def _take_cost(self, words):
        """Take the cost of the lines of some words."""
        cost = read_cost(text_of(words))
        if not cost.fits(self._table):
            raise InvalidCost(cost)
        self._cost = cost


def text_of(words):
    """Return the text with the lines that some words tell, which are separated by `; `."""
    return " ".join(words).replace("; ", "\n")
