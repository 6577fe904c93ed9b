"""What several files need: checks of any object, spots, tuples and groups of integers."""

# Of a table, of what is stored, and of prices.
MOST_PIECES = 6
MOST_PARTS = 3

LONGEST_NAME = 8


def is_integer(value):
    """Return whether any object is an integer; True and False are none."""
    return isinstance(value, int) and not isinstance(value, bool)


def is_between(value, low, high):
    """Return whether any object is an integer from low to high."""
    return is_integer(value) and low <= value <= high


def has_items(value, least, most):
    """Return whether any object is a list or tuple of least to most items."""
    return isinstance(value, (list, tuple)) and least <= len(value) <= most


def all_between(items, low, high):
    """Return whether all items of a list or tuple are integers from low to high."""
    return all([is_between(item, low, high) for item in items])


def is_name(value):
    """Return whether any object is a name: one to eight of the letters a to z."""
    if not isinstance(value, str) or len(value) > LONGEST_NAME:
        return False
    return value.isascii() and value.isalpha() and value.islower()


def is_ascending(items):
    """Return whether the items of a list or tuple ascend and none stands twice."""
    return all([one < other for one, other in zip(items, items[1:])])


def are_pieces(value, many):
    """Return whether any object is an ascending list or tuple of different pieces of so many."""
    return has_items(value, 0, many) and all_between(value, 0, many - 1) and is_ascending(value)


def is_spot(value, spots):
    """Return whether any object is one of these spots."""
    if not isinstance(value, tuple) or len(value) != 2:
        return False
    # (0, True) equals (0, 1), so that equality alone would take it for a spot.
    return is_integer(value[0]) and is_integer(value[1]) and value in spots


def are_spots(value, spots):
    """Return whether any object is an ascending list or tuple of different ones of these spots."""
    if not has_items(value, 0, len(spots)):
        return False
    return all([is_spot(item, spots) for item in value]) and is_ascending(value)


def spots_of_parts(pieces):
    """Return the ascending tuple of all spots, by the parts of each piece; None is a gone piece."""
    there = [(piece, parts) for piece, parts in enumerate(pieces) if parts is not None]
    return tuple([(piece, part) for piece, parts in there for part in range(len(parts))])


def power(number, times):
    """Return a number multiplied by itself so many times."""
    result = 1
    for _ in range(times):
        result = result * number
    return result


def all_tuples(limit, many):
    """Return the ascending list of all tuples of so many integers from 0 to limit - 1."""
    rows = [()]
    for _ in range(many):
        rows = [(*row, value) for row in rows for value in range(limit)]
    return rows


def all_groups(many):
    """Return the list of all ascending tuples of indexes below many, by their number, then ascending."""
    groups = [()]
    for index in range(many):
        groups = [*groups, *[(*group, index) for group in groups]]
    return sorted(sorted(groups), key=len)
