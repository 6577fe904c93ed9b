"""Texts of tables, costs and certificates."""

from leastreads.basics import MOST_PARTS, MOST_PIECES, are_spots, spots_of_parts
from leastreads.costs import Prices
from leastreads.errors import InvalidText
from leastreads.ground import MOST_WISHES
from leastreads.nets import MOST_LINKS, Net
from leastreads.papers import is_least
from leastreads.reads import least
from leastreads.sums import Sum
from leastreads.tables import Table
from leastreads.words import are_numbers, is_number, is_product_word, is_spot_word, numbers_in, numbers_word
from leastreads.words import product_in, spot_in, spot_word


def line_of(words):
    """Return a line with these words, integers or strings."""
    return " ".join([str(word) for word in words])


def write_table(table):
    """Return the text of a table."""
    lines = [line_of(["table", table.prime, table.size])]
    for parts in table.pieces:
        lines.append(line_of(["piece", *[numbers_word(factors) for factors in parts]]))
    return "\n".join(lines)


def price_lines(prices):
    """Return the list of the lines of Prices."""
    rows = list(zip(prices.opens, prices.wholes, prices.parts))
    return ["prices", *[line_of([opening, whole, *parts]) for opening, whole, parts in rows]]


def write_cost(cost):
    """Return the text of Prices or a Net."""
    if isinstance(cost, Prices):
        return "\n".join(price_lines(cost))
    lines = [*price_lines(cost.prices), line_of(["home", cost.home]), line_of(["racks", *cost.racks])]
    return "\n".join([*lines, *[line_of(["link", *link]) for link in cost.links]])


def certify(table, cost, gone, wishes):
    """Return the certificate of the least reads."""
    reads = least(table, cost, gone, wishes)
    lines = [write_table(table), write_cost(cost), line_of(["gone", *[spot_word(spot) for spot in gone]])]
    lines.extend([line_of(["wish", numbers_word(item.factors)]) for item in wishes])
    lines.append(line_of(["read", reads.cost, *[spot_word(spot) for spot in reads.spots]]))
    for combination in reads.combinations:
        lines.append(line_of(["by", *[f"{factor}*{spot_word(spot)}" for spot, factor in combination]]))
    lines.extend([line_of(["blind", numbers_word(data)]) for data in reads.blinds])
    return "\n".join(lines)


class Lines:
    """The lines of a text, taken one after the other."""

    def __init__(self, text):
        if not isinstance(text, str):
            raise InvalidText(None)
        self._lines = text.split("\n")
        self._place = 0

    def is_end(self):
        """Return whether all lines are taken."""
        return self._place == len(self._lines)

    def begins(self, word):
        """Return whether there is a next line that has this as its first word."""
        return not self.is_end() and self._lines[self._place].split(" ")[0] == word

    def take(self):
        """Return the list of the words of the next line."""
        if self.is_end():
            raise InvalidText(self._place)
        self._place += 1
        return self._lines[self._place - 1].split(" ")

    def take_behind(self, word):
        """Return the list of the words behind the first one of the next line, which has to be this."""
        words = self.take()
        self.expect(words[0] == word)
        return words[1:]

    def expect(self, is_right):
        """Raise InvalidText with the index of the line that was taken last, if this is not so."""
        if not is_right:
            raise InvalidText(self._place - 1)

    def expect_end(self):
        """Raise InvalidText with the index of the next line, if there is one."""
        if not self.is_end():
            raise InvalidText(self._place)


def take_table(lines):
    """Return (prime, size, pieces) of the next lines."""
    words = lines.take_behind("table")
    lines.expect(len(words) == 2 and is_number(words[0]) and is_number(words[1]))
    pieces = []
    while len(pieces) == 0 or lines.begins("piece"):
        parts = lines.take_behind("piece")
        lines.expect(len(pieces) < MOST_PIECES and 1 <= len(parts) <= MOST_PARTS)
        lines.expect(all([are_numbers(part) for part in parts]))
        pieces.append(tuple([numbers_in(part) for part in parts]))
    return (int(words[0]), int(words[1]), tuple(pieces))


def take_price_row(lines, fewest, most):
    """Return the tuple of the integers of the next line, fewest to most parts of a piece with prices."""
    words = lines.take()
    lines.expect(fewest <= len(words) - 2 <= most and all([is_number(word) for word in words]))
    return tuple([int(word) for word in words])


def take_price_rows(lines, pieces):
    """Return the list of the rows of the prices of the next lines, for some pieces, or for any ones if None."""
    lines.expect(len(lines.take_behind("prices")) == 0)
    if pieces is not None:
        return [take_price_row(lines, len(parts), len(parts)) for parts in pieces]
    rows = []
    while len(rows) == 0 or not (lines.is_end() or lines.begins("home")):
        rows.append(take_price_row(lines, 1, MOST_PARTS))
        lines.expect(len(rows) <= MOST_PIECES)
    return rows


def take_numbers(lines, word, many):
    """Return the tuple of so many integers behind the first word, this one, of the next line."""
    words = lines.take_behind(word)
    lines.expect(len(words) == many and all([is_number(item) for item in words]))
    return tuple([int(item) for item in words])


def take_net(lines, many):
    """Return (racks, links, home) of the next lines, for so many pieces."""
    home = take_numbers(lines, "home", 1)[0]
    racks = take_numbers(lines, "racks", many)
    links = []
    while lines.begins("link"):
        link = take_numbers(lines, "link", 3)
        lines.expect(len(links) < MOST_LINKS and (len(links) == 0 or links[-1] < link))
        links.append(link)
    return (racks, tuple(links), home)


def take_cost(lines, pieces):
    """Return (rows, net) of the next lines: the rows of the prices, and what a Net has beside them, or None."""
    rows = take_price_rows(lines, pieces)
    return (rows, take_net(lines, len(rows)) if lines.begins("home") else None)


def made_cost(rows, net):
    """Return the Prices or the Net that lines tell of."""
    parts = tuple([row[2:] for row in rows])
    prices = Prices(parts, tuple([row[1] for row in rows]), tuple([row[0] for row in rows]))
    if net is None:
        return prices
    racks, links, home = net
    return Net(prices, racks, links, home)


def read_table(text):
    """Return the Table that a text tells of."""
    lines = Lines(text)
    prime, size, pieces = take_table(lines)
    lines.expect_end()
    return Table(prime, size, pieces)


def read_cost(text):
    """Return the Prices or the Net that a text tells of."""
    lines = Lines(text)
    rows, net = take_cost(lines, None)
    lines.expect_end()
    return made_cost(rows, net)


def take_spots(lines, words, known):
    """Return the tuple of the spots that words of the line that was taken last are, ascending ones of the known."""
    lines.expect(all([is_spot_word(word) for word in words]))
    spots = tuple([spot_in(word) for word in words])
    lines.expect(are_spots(spots, known))
    return spots


def take_combination(lines, known):
    """Return the combination of the next line."""
    words = lines.take_behind("by")
    lines.expect(all([is_product_word(word) for word in words]))
    told = tuple([product_in(word) for word in words])
    lines.expect(are_spots([spot for spot, _ in told], known))
    return told


def take_row(lines, word):
    """Return the tuple of the integers in the only word behind the first one, this one, of the next line."""
    words = lines.take_behind(word)
    lines.expect(len(words) == 1 and are_numbers(words[0]))
    return numbers_in(words[0])


def take_question(lines, known):
    """Return (gone, wishes) of the next lines, wishes by their factors."""
    gone = take_spots(lines, lines.take_behind("gone"), known)
    wishes = []
    while len(wishes) == 0 or lines.begins("wish"):
        wishes.append(take_row(lines, "wish"))
        lines.expect(len(wishes) <= MOST_WISHES)
    return (gone, wishes)


def take_paper(lines, known, many):
    """Return the paper of the next lines, for so many wishes."""
    words = lines.take_behind("read")
    lines.expect(len(words) > 0 and is_number(words[0]))
    spots = take_spots(lines, words[1:], known)
    combinations = tuple([take_combination(lines, known) for _ in range(many)])
    blinds = []
    while lines.begins("blind"):
        blinds.append(take_row(lines, "blind"))
    return (spots, int(words[0]), combinations, tuple(blinds))


def check(text):
    """Return whether what a certificate tells is a right paper."""
    lines = Lines(text)
    prime, size, pieces = take_table(lines)
    rows, net = take_cost(lines, pieces)
    known = spots_of_parts(pieces)
    gone, wishes = take_question(lines, known)
    paper = take_paper(lines, known, len(wishes))
    lines.expect_end()
    table = Table(prime, size, pieces)
    cost = made_cost(rows, net)
    items = tuple([Sum(prime, factors) for factors in wishes])
    return is_least(table, cost, gone, items, paper)
