"""What several tests need: odd objects, and linear algebra by going through everything."""

from itertools import combinations, product

from leastreads.sums import Sum
from leastreads.tables import Table


class EqualToAll:
    """An object that claims to be equal to every other one."""

    def __eq__(self, other):
        return True

    def __ne__(self, other):
        return False

    __hash__ = None


# What is neither an integer nor a list or tuple, although some of it looks or compares like one.
ODD = [None, True, False, "", "a", "01", b"01", 1.0, {}, {0: 1}, {0, 1}, object(), EqualToAll(), range(2), Exception]

# What is no list or tuple.
NO_LISTS = ODD + [0, 1, -1]

# What is no integer.
NO_INTEGERS = ODD + [[], (), [1], (0,), (0, 1)]

SIZES = {2: 6, 3: 6, 5: 5, 7: 4}


def data_of(prime, size):
    """Return the list of all data, ascending."""
    return list(product(range(prime), repeat=size))


def value_of(prime, factors, data):
    """Return the value of a sum, by its factors, for data."""
    return sum(factor * value for factor, value in zip(factors, data)) % prime


def zeros_of(prime, size, rows):
    """Return the ascending list of all data for which all these sums are 0."""
    return [data for data in data_of(prime, size) if not any(value_of(prime, row, data) for row in rows)]


def span_of(prime, size, rows):
    """Return the set of the factors of all sums that some sums give."""
    span = {(0,) * size}
    for row in rows:
        span = {
            tuple((old + times * new) % prime for old, new in zip(one, row))
            for one in span
            for times in range(prime)
        }
    return span


def subsets(rows):
    """Return the list of all subsets, by their number, then in the order of the rows."""
    return [chosen for many in range(len(rows) + 1) for chosen in combinations(rows, many)]


def rows_at(table, spots):
    """Return the factors of the sums at some spots."""
    return [table.pieces[piece][part] for piece, part in spots]


def are_had(table, spots, rows):
    """Return whether all these sums can be had from some spots: no data are 0 at the spots, but not for them."""
    zeros = zeros_of(table.prime, table.size, rows_at(table, spots))
    return not any(value_of(table.prime, row, data) for row in rows for data in zeros)


def cost_of(parts, wholes, opens, spots):
    """Return the cost of spots and the paid spots."""
    cost, paid = 0, set(spots)
    for piece in {piece for piece, _ in spots}:
        price = sum(parts[piece][part] for other, part in spots if other == piece)
        cost += opens[piece] + (wholes[piece] if wholes[piece] <= price else price)
        if wholes[piece] <= price:
            paid |= {(piece, part) for part in range(len(parts[piece]))}
    return cost, tuple(sorted(paid))


def priced(prices, spots):
    """Return the cost of spots by Prices."""
    return cost_of(prices.parts, prices.wholes, prices.opens, spots)[0]


def sum_of(table, combination):
    """Return the factors of what a combination gives."""
    rows = [(table.pieces[piece][part], factor) for (piece, part), factor in combination]
    return tuple(sum(row[place] * factor for row, factor in rows) % table.prime for place in range(table.size))


def is_proper_combination(table, spots, value):
    """Return whether a value is a combination of some of these spots."""
    if type(value) is not tuple or any(type(item) is not tuple or len(item) != 2 for item in value):
        return False
    used = [spot for spot, _ in value]
    if any(type(factor) is not int or not 0 < factor < table.prime for _, factor in value):
        return False
    return used == sorted(set(used)) and all(type(spot) is tuple and spot in spots for spot in used)


def is_proper_data(table, value):
    """Return whether a value is a tuple that is data of the table."""
    if type(value) is not tuple or len(value) != table.size:
        return False
    return all(type(item) is int and 0 <= item < table.prime for item in value)


def random_table(random, prime, size, counts):
    """Return a table with so many parts in each piece, and more small factors than others."""
    factors = [0, 1, *range(prime)]
    return Table(prime, size, [[[random.choice(factors) for _ in range(size)] for _ in range(n)] for n in counts])


def random_sums(random, table, many):
    """Return so many sums of the table's prime and size."""
    rows = [[random.randrange(table.prime) for _ in range(table.size)] for _ in range(many)]
    return [Sum(table.prime, row) for row in rows]


def random_sublist(random, rows):
    """Return some of the rows, in their order."""
    return sorted(random.sample(list(rows), random.randint(0, len(rows))))


def units_of(table):
    return [Sum.unit(table.prime, table.size, index) for index in range(table.size)]


def raised(error, call, *told, **named):
    """Return the error of this very class that a call raises."""
    try:
        call(*told, **named)
    except error as found:
        if found.__class__ is not error:
            raise AssertionError(f"{found.__class__} instead of {error}") from found
        return found
    raise AssertionError(f"{error} not raised for {told} {named}")
