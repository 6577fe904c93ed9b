"""Wrong pieces: what explains what is stored, what is agreed, and how many wrong pieces can be seen."""

from leastreads.basics import all_groups, all_tuples
from leastreads.errors import InvalidStored, InvalidWishes, Unsure
from leastreads.ground import are_wishes
from leastreads.points import all_values
from leastreads.spaces import reduced_rows
from leastreads.tables import is_stored


def expect_stored(table, stored):
    """Raise InvalidStored for any object that is not a Stored of the table."""
    if not is_stored(table, stored):
        raise InvalidStored(stored)


def clash_within(table, stored, pieces):
    """Return a clash of spots of some pieces, or None."""
    spots = [spot for spot in stored if spot[0] in pieces]
    # Behind the factors stands what is stored, and behind this which spots it was made of.
    marks = [[1 if mark == spot else 0 for mark in spots] for spot in spots]
    rows = [(*table[spot].factors, stored[spot], *row) for spot, row in zip(spots, marks)]
    for row in reduced_rows(table.prime, rows):
        if row.index(1) == table.size:
            pairs = list(zip(spots, row[table.size + 1 :]))
            return tuple([(spot, factor) for spot, factor in pairs if factor != 0])
    return None


def clash(table, stored):
    """Return a clash, or None if some data fit all that is there."""
    expect_stored(table, stored)
    return clash_within(table, stored, list(range(len(table))))


def narrow_clash(table, stored, pieces):
    """Return a clash of spots of some pieces, which have one, such that none of its pieces could be left out."""
    for piece in list(pieces):
        fewer = [other for other in pieces if other != piece]
        if clash_within(table, stored, fewer) is not None:
            pieces = fewer
    return clash_within(table, stored, pieces)


def wrong_pieces(table, stored):
    """Return the list, for all data in order, of the tuples of the pieces that are wrong if these are the data."""
    found = [() for _ in all_tuples(table.prime, table.size)]
    for piece, values in enumerate(stored.pieces):
        if values is not None:
            columns = [all_values(table.prime, factors) for factors in table.pieces[piece]]
            made = list(zip(*columns))
            found = [pieces if row == values else (*pieces, piece) for pieces, row in zip(found, made)]
    return found


def fewest_explanations(table, stored):
    """Return the ascending list of all explanations with the fewest pieces."""
    wrong = wrong_pieces(table, stored)
    number = min([len(pieces) for pieces in wrong])
    pairs = list(zip(wrong, all_tuples(table.prime, table.size)))
    return sorted([(pieces, data) for pieces, data in pairs if len(pieces) == number])


def is_hit(told, pieces):
    """Return whether a clash has a spot of some pieces."""
    return any([spot[0] in pieces for spot, _ in told])


def needed_clashes(table, stored, found, number):
    """Return the list of clashes that show that no other pieces than the found ones, so many or fewer, explain."""
    there = [piece for piece in range(len(table)) if piece not in stored.gone]
    groups = [tuple([there[index] for index in group]) for group in all_groups(len(there))]
    if len(found) == 1:
        refuted = [group for group in groups if len(group) <= number and group != found[0][0]]
    else:
        refuted = [group for group in groups if len(group) < number]
    clashes = []
    # What refutes many pieces refutes some of them, too.
    for group in reversed(list(refuted)):
        if all([is_hit(told, group) for told in clashes]):
            clashes.append(narrow_clash(table, stored, [piece for piece in there if piece not in group]))
    return clashes


def explanations(table, stored):
    """Return (number, found, clashes): the fewest wrong pieces, how they explain, and why no fewer do."""
    expect_stored(table, stored)
    found = fewest_explanations(table, stored)
    number = len(found[0][0])
    return (number, tuple(found[:2]), tuple(needed_clashes(table, stored, found, number)))


def agreed(table, stored, wishes):
    """Return the tuple of the values of the wishes on which all explanations with the fewest pieces agree."""
    expect_stored(table, stored)
    if not are_wishes(table, wishes):
        raise InvalidWishes(wishes)
    found = fewest_explanations(table, stored)
    values = tuple([item(found[0][1]) for item in wishes])
    for other in found:
        if tuple([item(other[1]) for item in wishes]) != values:
            raise Unsure((found[0], other))
    return values


def strength(table, gone=()):
    """Return (strength, data) of a table, some pieces of which are gone, with the first data that show it."""
    # To store a value that is not 0 means to differ from what all zeros store, which come first of all data.
    # What is stored raises InvalidPieces for wrong pieces.
    blank = table((0,) * table.size).without(gone)
    rows = list(zip(wrong_pieces(table, blank), all_tuples(table.prime, table.size)))[1:]
    number = min([len(pieces) for pieces, _ in rows])
    return (number, [data for pieces, data in rows if len(pieces) == number][0])
