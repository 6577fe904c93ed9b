"""What the tests of reads and nets need: costs, trees and least reads by going through everything."""

from leastreads.costs import Prices
from leastreads.nets import Net
from support import are_had, is_proper_combination, is_proper_data, priced, rows_at, subsets, sum_of, value_of


def random_prices(random, table, most=4):
    """Return Prices for a table, with many equal ones."""
    parts = [[random.randint(0, most) for _ in parts] for parts in table.pieces]
    wholes = [random.randint(0, 2 * most) for _ in parts]
    return Prices(parts, wholes, [random.choice([0, 0, 1, most]) for _ in parts])


def random_net(random, table, most=4):
    """Return a net for a table, with few racks and links."""
    racks = [random.randint(0, 4) for _ in table.pieces]
    pairs = [(one, other) for one in range(5) for other in range(one + 1, 5)]
    chosen = random.sample(pairs, random.randint(0, 6))
    links = [(*pair, random.randint(0, most)) for pair in chosen]
    return Net(random_prices(random, table, most), racks, links, random.randint(0, 4))


def leads_to(links, home):
    """Return the set of the racks from which some links lead home."""
    racks = {home}
    while True:
        more = {rack for link in links for rack in link[:2] if set(link[:2]) & racks}
        if more <= racks:
            return racks
        racks |= more


def tree_of(net, spots):
    """Return (price, indexes) of the least tree for spots, by going through all sets of links, or None."""
    needed = {net.racks[piece] for piece, _ in spots}
    rows = [
        (sum(net.links[index][2] for index in group), len(group), group)
        for group in subsets(range(len(net.links)))
        if needed <= leads_to([net.links[index] for index in group], net.home)
    ]
    return None if not rows else min(rows)[::2]


def told_cost(cost, spots):
    """Return the cost of spots by Prices or a Net, or None."""
    if isinstance(cost, Prices):
        return priced(cost, spots)
    tree = tree_of(cost, spots)
    return None if tree is None else priced(cost.prices, spots) + tree[0]


def all_choices(table, cost, gone):
    """Return the ascending list of tuples (cost, number, spots) of all sets of spots that are there and have a cost."""
    there = [spot for spot in table if spot not in gone]
    rows = [(told_cost(cost, spots), len(spots), spots) for spots in subsets(there)]
    return sorted(row for row in rows if row[0] is not None)


def least_spots(table, cost, gone, wishes):
    """Return (cost, spots) of what point 9 chooses, or None."""
    rows = [item.factors for item in wishes]
    for price, _, spots in all_choices(table, cost, gone):
        if are_had(table, spots, rows):
            return price, spots
    return None


def wrong_line(table, cost, gone, wishes, paper):
    """Return what is wrong with a paper of point 9, or None."""
    spots, price, combinations, blinds = paper
    there = [spot for spot in table if spot not in gone]
    if type(spots) is not tuple or list(spots) != sorted(set(spots)) or not set(spots) <= set(there):
        return "spots"
    if type(price) is not int or told_cost(cost, spots) != price:
        return "cost"
    if type(combinations) is not tuple or len(combinations) != len(wishes):
        return "number of combinations"
    for item, combination in zip(wishes, combinations):
        if not is_proper_combination(table, spots, combination) or sum_of(table, combination) != item.factors:
            return f"combination {combination}"
    rows = [item.factors for item in wishes]
    for data in blinds:
        if not is_proper_data(table, data) or not any(value_of(table.prime, row, data) for row in rows):
            return f"blind {data}"
    if type(blinds) is not tuple:
        return "blinds"
    for other, _, chosen in all_choices(table, cost, gone):
        if other < price and not any(is_zero_at(table, chosen, data) for data in blinds):
            return f"not refuted: {chosen}"
    return None


def is_zero_at(table, spots, data):
    """Return whether all these spots are 0 for data."""
    return not any(value_of(table.prime, row, data) for row in rows_at(table, spots))
