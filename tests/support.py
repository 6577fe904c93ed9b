"""What several tests need: odd objects, and linear algebra by going through everything."""

from itertools import product


class EqualToAll:
    """An object that claims to be equal to every other one."""

    def __eq__(self, other):
        return True

    def __ne__(self, other):
        return False

    __hash__ = None


# What is neither an integer nor a list or tuple, although some of it looks or compares like one.
ODD = [None, True, False, "", "a", "01", b"01", 1.0, {}, {0: 1}, {0, 1}, object(), EqualToAll(), range(2), Exception]

# What is no list or tuple.
NO_LISTS = ODD + [0, 1, -1]

# What is no integer.
NO_INTEGERS = ODD + [[], (), [1], (0,), (0, 1)]

SIZES = {2: 6, 3: 6, 5: 5, 7: 4}


def data_of(prime, size):
    """Return the list of all data, ascending."""
    return list(product(range(prime), repeat=size))


def value_of(prime, factors, data):
    """Return the value of a sum, by its factors, for data."""
    return sum(factor * value for factor, value in zip(factors, data)) % prime


def zeros_of(prime, size, rows):
    """Return the ascending list of all data for which all these sums are 0."""
    return [data for data in data_of(prime, size) if not any(value_of(prime, row, data) for row in rows)]


def span_of(prime, size, rows):
    """Return the set of the factors of all sums that some sums give."""
    span = {(0,) * size}
    for row in rows:
        span = {
            tuple((old + times * new) % prime for old, new in zip(one, row))
            for one in span
            for times in range(prime)
        }
    return span


def raised(error, call, *told, **named):
    """Return the error of this very class that a call raises."""
    try:
        call(*told, **named)
    except error as found:
        if found.__class__ is not error:
            raise AssertionError(f"{found.__class__} instead of {error}") from found
        return found
    raise AssertionError(f"{error} not raised for {told} {named}")
