"""What can be had from spots, and which pieces are fatal."""

from leastreads.basics import all_groups, are_spots, has_items, is_ascending, is_between, is_spot
from leastreads.errors import InvalidSpots, InvalidSum, InvalidWishes
from leastreads.spaces import blind_for, reduced_rows, remainder
from leastreads.sums import Sum, is_data, is_sum

MOST_WISHES = 10


def expect_question(table, spots, item):
    """Raise InvalidSpots for wrong spots, then InvalidSum for what is no sum of the table."""
    if not are_spots(spots, list(table)):
        raise InvalidSpots(spots)
    if not is_sum(table.prime, table.size, item):
        raise InvalidSum(item)


def combination_for(table, spots, item):
    """Return a combination of some of these spots that gives a Sum, or None."""
    # Behind the factors of each sum stands which spots it was made of.
    rows = [(*table[spot].factors, *[1 if mark == spot else 0 for mark in spots]) for spot in spots]
    wished = (*item.factors, *[0 for _ in spots])
    rest = remainder(table.prime, reduced_rows(table.prime, rows), wished)
    if any(rest[: table.size]):
        return None
    factors = [-factor % table.prime for factor in rest[table.size :]]
    return tuple([(spot, factor) for spot, factor in zip(spots, factors) if factor != 0])


def is_combination(table, spots, value):
    """Return whether any object is a combination of some of these spots."""
    if not isinstance(value, tuple):
        return False
    for item in value:
        if not isinstance(item, tuple) or len(item) != 2:
            return False
        if not is_spot(item[0], spots) or not is_between(item[1], 1, table.prime - 1):
            return False
    return is_ascending([spot for spot, _ in value])


def given_sum(table, combination):
    """Return the Sum that a combination gives."""
    total = Sum(table.prime, [0 for _ in range(table.size)])
    for spot, factor in combination:
        total = total + table[spot] * factor
    return total


def given_value(table, combination, stored):
    """Return the value that a combination gives of what is stored at its spots."""
    return sum([factor * stored[spot] for spot, factor in combination]) % table.prime


def is_blind(table, spots, items, value):
    """Return whether any object is data for which all these spots are 0 and some of these Sums is not."""
    if not isinstance(value, tuple) or not is_data(table.prime, table.size, value):
        return False
    return not any([table[spot](value) for spot in spots]) and any([item(value) for item in items])


def have(table, spots, item):
    """Return ("combination", combination) if a Sum can be had from the spots, otherwise ("blind", data)."""
    expect_question(table, spots, item)
    combination = combination_for(table, spots, item)
    if combination is None:
        return ("blind", table.space(spots).blind_data(item))
    return ("combination", combination)


def is_have(table, spots, item, value):
    """Return whether any object is such a tuple that tells rightly whether a Sum can be had from the spots."""
    expect_question(table, spots, item)
    if not isinstance(value, tuple) or len(value) != 2 or not isinstance(value[0], str):
        return False
    word, told = value
    if word == "combination":
        return is_combination(table, spots, told) and given_sum(table, told) == item
    return word == "blind" and is_blind(table, spots, [item], told)


def are_wishes(table, value):
    """Return whether any object is a list or tuple of one to ten Sums of the table's prime and size."""
    return has_items(value, 1, MOST_WISHES) and all([is_sum(table.prime, table.size, item) for item in value])


def least_losses(table, wishes, losses):
    """Return the list of (group, data) of the least groups by whose loss not all wishes can be had.

    Losses are tuples (group, pieces) with the pieces that are gone then, the groups by their number, then ascending;
    the data are the first ones for which all parts of the other pieces are 0 and some wish is not.
    """
    found = []
    for group, gone in losses:
        if not any([all([item in group for item in smaller]) for smaller, _ in found]):
            left = table.spots_of([piece for piece in range(len(table)) if piece not in gone])
            data = blind_for(table.space(left), wishes)
            if data is not None:
                found.append((group, data))
    return found


def fatal(table, wishes):
    """Return the list of the least fatal sets of pieces, each with the first data that show it."""
    if not are_wishes(table, wishes):
        raise InvalidWishes(wishes)
    return least_losses(table, wishes, [(group, group) for group in all_groups(len(table))])


def units_of(table):
    """Return the list of the units of all data values of a table."""
    return [Sum.unit(table.prime, table.size, index) for index in range(table.size)]
